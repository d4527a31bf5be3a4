import PyProof.Rows.All
import Wide.All
import OpenK.AllK
import Wide.FinOn
import HandS.ForMost
import HandS.Wide
import HandS.WideBits
import HandS.Property
import HandS.OwnEq
import HandS.IsInst
import HandS.Style
import HandS.Codes
import HandS.SortInts
import PyProof.ReprRoads
import HandS.WordsExc
import HandS.ExcIs
import HandS.RaiseMore
import HandS.Walk
import PyProof.Rows.RegReprOcc
import PyProof.ReprLen
import HandS.TupAny
import HandS.Gcd
import HandS.ExcOwn
import PyProof.Rows.StrRev
import KE.KRevSl
import KE.GoesMore
import HandS.Conv
import KE.KMathGC
import KE.BitLaws
import HandS.Text
import HandS.StrMore
import HandS.SortRule
import HandS.Dict
import HandS.SetFor
import HandS.Strs
import KE.KDictZip
import HandS.OwnIter
import HandS.DictSubView
import KE.KDictCopyH
import KE.KDictDisplayH
import PyProof.ListStr
import KE.KExcIs
import HandS.FStr
import HandS.ExcInit
import HandS.ExcField
import PyProof.FString2
import KE.KExcSuper
import HandS.ExcValue
import KE.OsScanText
import PySem.Challenge.RW_lacekeys_k51_errors_made
set_option Elab.async false
set_option linter.all false
set_option maxRecDepth 100000
set_option maxHeartbeats 4000000
namespace Lk
open PySem PySem.Spec PyProof.Rows L2
/-! ### rules of our own -/
section
variable {X : Cx}
/-- a power of a great base -/
def CPowB (i j : Int) : Prop := ∃ b : Nat, i.natAbs < 2 ^ b ∧ 0 ≤ j ∧ (b : Int) * j ≤ 100000
theorem op_powB : OpR X (binaryOp .Pow) (rI CPowB fun i j => .int (i ^ j.toNat)) :=
  opI fun i j _ _ _ _ _ hc q => by
    obtain ⟨b, h1, h2, h3⟩ := hc
    refine pow_int h2 ?_ q
    have h4 := intBits_le h1
    have h5 : ((Builtin.Int.intBits i : Nat) : Int) * j ≤ (b : Int) * j := Int.mul_le_mul_of_nonneg_right (by omega) h2
    omega
/-- a text times a number -/
def rMulS : R2 := fun x y H Q => ∃ (a : Str) (n : Int), x = .str a ∧ y = .int n ∧ a.length ≤ 1000 ∧ -1000 ≤ n ∧ n ≤ 1000 ∧ Q (.str (Txt.mul a n)) H
theorem op_mulS : OpR X (binaryOp .Mult) rMulS := by
  intro pins s σ H x y v u Q I rx ry h
  obtain ⟨a, n, rfl, rfl, h1, h2, h3, q⟩ := h
  obtain ⟨t, rfl⟩ := rx
  obtain ⟨t', rfl⟩ := ry
  exact SB.mul (mulOk_of 1000 1000 h1 h3 (by omega) (by decide) (by decide)) fun t1 k => ⟨.str (Txt.mul a n), H, I.tok k, ⟨t1, rfl⟩, q⟩
/-- repr of data -/
def rRepr (K : PySem.W.Frag) : List V → Hp → VK → Prop := fun xs H Q => ∃ (a : Addr) (d : PyData), xs = [.ref a] ∧ Dp K H (.ref a) d ∧ d.showable = true ∧ d.hasDict = false ∧ d.depth ≤ 8 ∧ d.shown.length ≤ sizeLine ∧ Q (.str d.shown) H
end

theorem kitOne_self (K : PySem.W.Frag) (v : Value) : PySem.W.kitOne K v v = some true := by
  unfold PySem.W.kitOne
  rw [if_pos (beq_self_eq_true v)]

/-! ### defs that are called where no repr is under way -/
structure FnG (P : Program) (w : World) (K : PySem.W.Frag) (mg : Str → Option Value) (base : Heap) (k : Nat) (f : Addr) (fd : FuncData) (ps : List Str) (sp : Sp) : Prop where
  wide : ∀ vs H Q E, sp vs H Q E → vs.length = ps.length
  goes : ∀ (A : Around) (outer : List Env) (s : Shared) (H : Hp) (args : Args) (us : List Value) (vs : List V) (Q : VK) (E : XK), A.guards = some [] → Room k A →
    Env0 P w K mg base A outer s H → BindsTo s fd args (ps.zip us) → Vals vs us → sp vs H Q E → codeAny (model P w) A (.call (.ref f) args) (CR CX0 outer P w H s Q E) s
section
variable {P : Program} {w : World} {K : PySem.W.Frag} {mg : Str → Option Value} {base : Heap} {k : Nat} {f : Addr} {fd : FuncData} {ps : List Str} {sp : Sp}
theorem FnG.mono {j : Nat} (F : FnG P w K mg base j f fd ps sp) (h : j ≤ k) : FnG P w K mg base k f fd ps sp :=
  ⟨F.wide, fun A outer s H args us vs Q E hg hr => F.goes A outer s H args us vs Q E hg (hr.mono h)⟩
theorem okG {x qual : Str} {st : Stmt} {N : List Str} (F : Fun K x qual st f fd) (S : FnScope N ps (defScope st)) (len : ∀ vs H Q E, sp vs H Q E → vs.length = ps.length)
    (hbody : ∀ (cdv : Value) (A : Around) (outer : List Env) (s : Shared) (H : Hp) (vs : List V) (Q : VK) (E : XK), A.guards = some [] → Room k (A.deeper (envOfC qual (defScope st) s.heap.objs.size f cdv)) → sp vs H Q E →
      ∃ t, PSs (cxOf CX0 P w K mg base N qual (defScope st) f cdv A outer s H E).nox (defBody st) t ∧ t { nx := fun _ H' => Q .non H', rt := Q } (start N vs) H) : FnG P w K mg base (k + 1) f fd ps sp := by
  obtain ⟨oc, od, kV, doc, pm, an, cdv, ct, osl, rfl, lk, hcd⟩ := F.ex
  refine ⟨len, fun A outer s H args us vs Q E hg hr e0 hb r hsp => ?_⟩
  have KX : K.In s.heap := e0.mod.kin.keeps fun b o e => (e0.bs b o e).1
  have kinds : ∀ y ∈ ps.zip us, (defScope st).names.lookup y.1 = some .local ∨ ((defScope st).names.lookup y.1 = some .cell ∧ ((cellsFrom (s.heap.objs.size + 1) (defScope st).names []).lookup y.1).isSome = true) := by
    rintro ⟨n, v⟩ hy
    rcases S.par n (List.of_mem_zip hy).1 with z | z
    · exact .inl z
    · exact .inr ⟨z, PySem.W.cellsFrom_some _ _ _ (.inl z)⟩
  refine codeAny_call_function hr.depth (KX _ _ lk) rfl S.co S.gen rfl (PySem.W.codeRec_of KX hcd) (hb _ _ _ _ ?_)
  refine wpAny_newFunctionEnv_cells S.kind kinds fun env he s1 x => ?_
  subst he
  refine ⟨(e0.mod.nolimit.keeps fun b o e => (e0.bs b o e).1).keeps x.toInCall.keep, codeAny_func ?_⟩
  obtain ⟨t, ht, hq⟩ := hbody cdv A outer s H vs Q E hg (hr.deeper _) hsp
  have I := inv_start (CX := CX0) (E := E) S hr.hd e0 (len _ _ _ _ hsp) r x
  refine wpAny_mono (ht.nox.run [] s1 _ H _ I hq) (fun fl s' hs => ?_) fun e s' hs => hs
  cases fl with
  | ret u =>
    obtain ⟨v, σ', H', J, rv, q⟩ := hs
    exact ⟨v, H', J.os, J.bare, J.base, J.hok, rv, q⟩
  | next =>
    obtain ⟨σ', H', J, q⟩ := hs
    exact ⟨V.non, H', J.os, J.bare, J.base, J.hok, rfl, q⟩
  | brk => exact hs.elim fun _ z => z.elim fun _ z => z.2.elim
  | cont => exact hs.elim fun _ z => z.elim fun _ z => z.2.elim
end
section
variable {X : Cx} {k : Nat} {f : Addr} {fd : FuncData} {ps : List Str} {sp : Sp} {x : Str} {p pos : Pos} {e : Expr} {es : List Expr} {t : TA}
theorem pe_callG (F : FnG X.prog X.w X.K X.mg X.base k f fd ps sp) (hgd : X.A.guards = some []) (hr : Room k X.A) (hg : Gl X x) (hm : X.mg x = some (.ref f)) (hk : PySem.W.keepIn X.K (.ref f) = true) (hb : Binds X.K fd ps [])
    (ha : PA X (e :: es) t) (hdb : (x == ("__debug__" : Str)) = false := by decide) (he : starEach (e :: es) X.env = (false, eval e X.env) :: starEach es X.env := by rfl)
    (hpl : (backTo pos (starEach es X.env)).any (·.1) = false := by rfl) : PE X (.Call (.Name x p) (e :: es) [] pos) (tCall sp [] E0 t) := by
  refine ⟨fun pins s σ H Q I h => wpAny_Call_Name_kw (ld_glob I hg hm ?_ hdb)⟩
  refine PySem.W.callWith_K (h₀ := X.base) I.ok.mod.kin hk (thn (ha.run pos pins s σ H _ I h) fun us s1 hus => ?_) he hpl
  obtain ⟨vs, H1, I1, r, q⟩ := hus
  refine ⟨I1.kIn, wpAny_call (codeAny_mono (F.goes X.A X.stack s1 H1 ⟨us, []⟩ us vs Q E0 hgd hr I1.env0 ?_ r ?_) fun r s' hq => ?_)⟩
  · have l : us.length = ps.length := by
      rw [← r.length]
      have := F.wide _ _ _ _ q
      rw [List.append_nil] at this
      exact this
    have z := hb s1 us I1.kIn (by rw [List.append_nil]; exact l)
    rw [List.append_nil] at z
    exact z
  · have z := q
    rw [List.append_nil] at z
    exact z
  · cases r with
    | error e => exact hq.elim
    | ok fl =>
      cases fl with
      | ret u => exact I1.after hq
      | next => exact False.elim hq
      | brk => exact False.elim hq
      | cont => exact False.elim hq
end

/-! ### the law's own end -/
theorem callG {P : Program} {w : World} {K : PySem.W.Frag} {mg mb : Str → Option Value} {k : Nat} {fa a : Addr} {fd : FuncData} {x : Str} {sp : Sp} {s₁ : Shared} {vs : List Value} {ns : List Int}
    (KX : K.In s₁.heap) (hns : s₁.heap.Ns mainGlobals mg) (hb : s₁.heap.Ns builtinsNs mb) (hbb : ∀ x : Str, x ≠ "__name__" → mb x = bootBuiltins x) (hlim : s₁.heap.NoLimit) (hg : s₁.gens = #[])
    (ha : s₁.heap.get? a = some { cls := .type "list", data := .seq vs.toArray }) (hi : IntsAre vs ns) (hl : ns.length ≤ sizeLine) (hr : Room k callerA)
    (F : ∀ base : Heap, K.In base → base.Ns mainGlobals mg → FnG P w K mg base k fa fd [x] sp) (hbind : ∀ (s : Shared) (u : Value), BindsTo s fd ⟨[u], []⟩ [(x, u)])
    (hsp : ∀ H : Hp, Only H → SqL K H a (ns.map V.int) → sp [.ref a] H (fun v _ => v = .bl true) fun _ _ _ => False) :
    codeAny (model P w) callerA (.call (.ref fa) ⟨[.ref a], []⟩) (fun r s' => r = .ok (.ret (.bool true)) ∧ OldK s₁.heap s'.heap ∧ s'.os = s₁.os ∧ AllBare s'.gens) s₁ := by
  let o₁ : Obj := { cls := .type "list", data := .seq vs.toArray }
  -- what is tracked at the start: the script, unless it is an object of the module's
  obtain ⟨H, hO, hS, hok, hA, hKa⟩ : ∃ H : Hp, Only H ∧ SqL K H a (ns.map V.int) ∧ HOk P w H s₁.heap ∧ (∀ b, H b ≠ none → b = a) ∧ (H a ≠ none → K.lookup a = none) := by
    have lv : (ns.map V.int).length ≤ sizeLine := by
      rw [List.length_map]
      exact hl
    cases hk : K.lookup a with
    | some o =>
      have eo := (KX a o hk).symm.trans ha
      cases eo
      refine ⟨fun _ => none, fun _ => .inl rfl, .inr ⟨_, vs.toArray, _, hk, rfl, rfl, rfl, ?_, ?_⟩, ?_, ?_, ?_⟩
      · rw [List.size_toArray, hi.length]
        exact hl
      · exact vals_ints hi
      · intro b u z
        exact absurd (show (none : Option HO) = some u from z) (by intro y; cases y)
      · intro b z
        exact absurd rfl z
      · intro z
        exact absurd rfl z
    | none =>
      have at_a : (fun b => if b = a then some (HO.frz o₁ (.lst (ns.map V.int))) else none : Hp) a = some (HO.frz o₁ (.lst (ns.map V.int))) := if_pos rfl
      have off : ∀ b, b ≠ a → (fun b => if b = a then some (HO.frz o₁ (.lst (ns.map V.int))) else none : Hp) b = none := fun b hb => if_neg hb
      refine ⟨fun b => if b = a then some (.frz o₁ (.lst (ns.map V.int))) else none, fun b => ?_, .inl (.inr ⟨o₁, at_a⟩), fun b u z => ?_, fun b z => ?_, fun _ => rfl⟩
      · by_cases hb : b = a
        · subst hb
          exact .inr ⟨_, _, at_a⟩
        · exact .inl (off b hb)
      · by_cases hb : b = a
        · subst hb
          have z2 := at_a.symm.trans z
          cases z2
          exact ⟨ha, lv, vs, _, vals_ints hi, ha⟩
        · have z2 := (off b hb).symm.trans z
          cases z2
      · by_cases hb : b = a
        · exact hb
        · exact absurd (off b hb) z
  have nodict : ∀ {b : Addr} {o : Obj} {es : Array DictEntry} {ep : Nat}, s₁.heap.get? b = some o → o.data = .dict es ep → H b = none := by
    intro b o es ep eo ed
    cases q : H b with
    | none => rfl
    | some u =>
      have hb : b = a := hA b (by rw [q]; intro z; cases z)
      subst hb
      have z := ha.symm.trans eo
      cases z
      cases ed
  have nsK : ∀ {b : Addr} {m : Str → Option Value}, s₁.heap.Ns b m → (hidT s₁.heap H).Ns b m := by
    rintro b m ⟨o, es, ep, eo, ed, r⟩
    exact ⟨o, es, ep, hidT_get eo (nodict eo ed), ed, r⟩
  have KB : K.In (hidT s₁.heap H) := by
    intro b o eo
    refine hidT_get (KX b o eo) ?_
    cases q : H b with
    | none => rfl
    | some u =>
      have hb : b = a := hA b (by rw [q]; intro z; cases z)
      subst hb
      have z := hKa (by rw [q]; intro z; cases z)
      rw [eo] at z
      cases z
  have M : Mod K mg (hidT s₁.heap H) := by
    obtain ⟨mc, l1, l2⟩ := hlim
    exact ⟨KB, nsK hns, ⟨mb, nsK hb, hbb⟩, ⟨mc, nsK l1, l2⟩⟩
  have e0 : Env0 P w K mg (hidT s₁.heap H) callerA [] s₁ H := by
    refine ⟨rfl, M, fun b o e => of_hidT e, Nat.le_of_eq (hidT_size _ _), trivial, fun b hb => ?_, hok, .of_eq hg⟩
    exact absurd (show b ∈ ([] : List Addr) from hb) List.not_mem_nil
  refine codeAny_mono ((F _ KB (nsK hns)).goes callerA [] s₁ H ⟨[.ref a], []⟩ [.ref a] [.ref a] _ _ rfl hr e0 (hbind s₁ (.ref a)) (.cons rfl .nil) (hsp H hO hS)) fun r s' h => ?_
  cases r with
  | error e => exact h.elim
  | ok fl =>
    cases fl with
    | next => exact False.elim h
    | brk => exact False.elim h
    | cont => exact False.elim h
    | ret u =>
      obtain ⟨v, H', os, bare, un, hok', rv, (hv : v = .bl true)⟩ := h
      subst hv
      obtain rfl : u = Value.bool true := rv
      refine ⟨rfl, OldK.of_keep fun b o eo => ?_, os, bare⟩
      cases q : H b with
      | none => exact un.keep b o eo q (fun z => List.not_mem_nil z) List.not_mem_nil
      | some u =>
        rcases hO b with z | ⟨ob, xs, z⟩
        · rw [q] at z
          cases z
        · obtain ⟨e1, _⟩ := hok b _ z
          obtain ⟨e2, _⟩ := hok' b _ (un.frzs b ob _ z)
          have e3 := eo.symm.trans e1
          cases e3
          exact e2
theorem walkG {l : PySem.W.OpenLaw} {n k : Nat} {q : Program} {loose : List Str} {XP : (Str → Option Value) → Heap → Prop} {YP : World → Heap → Prop} {d : DefRec} {K : Params → PySem.W.Frag} {sp : World → Sp} {x : Str}
    (hn : l.most = some n) (hn2 : n ≤ sizeLine) (hdf : d.params.defaults = []) (hr : Room k callerA) (hY : ∀ (w : World) (h : Heap), YP w h → (K w.params).In h)
    (F : ∀ (w : World) (mg : Str → Option Value) (fa : Addr) (h : Heap), (K w.params).In h → h.Ns mainGlobals mg → mg d.name = some (.ref fa) →
      ∃ fd : FuncData, (∀ (s : Shared) (u : Value), BindsTo s fd ⟨[u], []⟩ [(x, u)]) ∧ ∀ base : Heap, (K w.params).In base → base.Ns mainGlobals mg → FnG l.prog w (K w.params) mg base k fa fd [x] (sp w))
    (hsp : ∀ (w : World) (H : Hp) (a : Addr) (ns : List Int), ns.length ≤ n → Only H → SqL (K w.params) H a (ns.map V.int) → sp w [.ref a] H (fun v _ => v = .bl true) fun _ _ _ => False) :
    PySem.W.WalkO q loose XP YP l.row.toRowW d [] (fun f vs => PySem.call f vs) := by
  refine Att.attach_call hn hdf fun w s₀ s₁ mg mb fa o pm cd doc a vs ns G Y ho hd hcd hmg hobj hints hlen hg => ?_
  obtain ⟨fd, hb, hF⟩ := F w mg fa _ (hY w _ Y) G.T.g hmg
  exact callG (hY w _ Y) G.T.g G.T.b G.T.builtins G.T.nolimit hg hobj hints (Nat.le_trans hlen hn2) hr hF hb fun H hO hS => hsp w H a ns hlen hO hS
end Lk

set_option Elab.async false
set_option linter.all false
set_option maxRecDepth 100000
set_option maxHeartbeats 4000000
namespace Lk
open PySem PySem.Spec PyProof.Rows L2
/-- an exception of the class cls with the dict d, kept as a value at a -/
def ExK (cls : Value) (d : Option Addr) (a : Addr) : HO := .ext fun h => ∃ (oe : Obj) (vs : Array Value), h.get? a = some oe ∧ Zc cls d oe ∧ oe.data = .fields vs
theorem exK_ok {P : Program} {w : World} {H : Hp} {h : Heap} {a : Addr} {cls : Value} {d : Option Addr} {oe : Obj} {vs : Array Value} (e : h.get? a = some oe) (z : Zc cls d oe) (dd : oe.data = .fields vs) : ObjOk P w H h a (ExK cls d a) :=
  ⟨⟨oe, vs, e, z, dd⟩, ⟨oe, e⟩, fun _ _ ⟨o, v, q, r⟩ k => ⟨o, v, k o q, r⟩⟩
section
variable {X : Cx} {pins : List (Addr × Obj)} {σ : L2.St} {H : Hp} {s : Shared}
end
/-- what the clause 'except x as n' wishes of an exception of the body, which is kept and tracked behind the suite -/
def wKp (K : PySem.W.Frag) (c : Value) (i : Nat) (ts : Addr → Value → Option Addr → TS) (Wout : WX) (D : Ends) : WX := fun cls d σ H =>
  ∃ b, PySem.W.exmOne K cls c = some b ∧ (b = true → ∀ a, H a = none → ts a cls d
    { nx := fun σ' H' => H' a = none → D.nx (σ'.set i none) (upd H' a (ExK cls d a)), rt := fun v H' => H' a = none → D.rt v (upd H' a (ExK cls d a)),
      bk := fun σ' H' => H' a = none → D.bk (σ'.set i none) (upd H' a (ExK cls d a)), ct := fun σ' H' => H' a = none → D.ct (σ'.set i none) (upd H' a (ExK cls d a)) } (σ.set i (some (.ref a))) H) ∧
    (b = false → Wout cls d σ H)
/-- an exception in flight over X: what is known of it, and of the state that it left (sI) -/
structure Air (X : Cx) (pins : List (Addr × Obj)) (σ : L2.St) (H : Hp) (a : Addr) (cls : Value) (d : Option Addr) (B : Heap) (sI s : Shared) : Prop where
  left : Inv X pins σ H sI
  ground : ∀ b o, sI.heap.get? b = some o → b ∉ frs X.stack → B.get? b = some o
  grew : sI.heap.UpToSlots s.heap
  fly : HandSPX.FlyingZ B X.stack a (Zc cls d) s.heap
  no : H a = none
  os : s.os = sI.os
  bare : AllBare s.gens
namespace Air
variable {X : Cx} {pins : List (Addr × Obj)} {σ : L2.St} {H : Hp} {a : Addr} {cls : Value} {d : Option Addr} {B : Heap} {sI s : Shared}
theorem on (A : Air X pins σ H a cls d B sI s) {h : Heap} (f : HandSPX.FlyingZ B X.stack a (Zc cls d) h) (u : s.heap.UpToSlots h) : Air X pins σ H a cls d B sI { s with heap := h } :=
  ⟨A.left, A.ground, A.grew.trans u, f, A.no, A.os, A.bare⟩
end Air
section
variable {X : Cx} {pins : List (Addr × Obj)} {σ : L2.St} {H : Hp} {a : Addr} {cls : Value} {d : Option Addr} {B : Heap} {sI s : Shared}
end
section
variable {X : Cx} {x n : Str} {c : Value} {i : Nat} {body rest : List Stmt} {b0 : Stmt} {np p1 p2 : Pos} {tb : WX → TS} {ts : Addr → Value → Option Addr → TS} {Wo : WX}
end
/-! ### isinstance of an exception that is kept -/
def rIsK (K : PySem.W.Frag) : List V → Hp → VK → Prop := fun xs H Q => ∃ (a D : Addr) (c : V) (cv : Value) (b : Bool), xs = [.ref a, c] ∧ H a = some (ExK (.ref D) none a) ∧ ExcC K D ∧ ClsV c cv ∧ PySem.W.kitOne K (.ref D) cv = some b ∧ Q (.bl b) H
end Lk

set_option Elab.async false
set_option linter.all false
set_option maxRecDepth 100000
set_option maxHeartbeats 4000000
namespace Mi
open PySem PySem.Spec PyProof.Rows L2
/-! ### data: values with what they lead to -/
inductive D where
  | non | bl (b : Bool) | int (i : Int) | str (s : Str) | ty (n : String) | cls (n : String)
  | tup (xs : List D) | lst (xs : List D) | slst (ns : List Int) | dic (kvs : List (D × D)) | dit (kvs : List (List Key × D)) | dii (kvs : List (Key × D))
  | ins (n : String) (fs : List (Str × D)) | exc (n : String) (fs : List (Str × D))
instance : Inhabited D := ⟨.non⟩
/-- where the classes stand -/
structure Ga where
  K : PySem.W.Frag
  ca : String → Addr
def dKey : Key → D
  | .inl i => .int i
  | .inr s => .str s
mutual
inductive Dt (Γ : Ga) (H : Hp) : V → D → Prop
  | non : Dt Γ H .non .non
  | bl (b : Bool) : Dt Γ H (.bl b) (.bl b)
  | int (i : Int) : Dt Γ H (.int i) (.int i)
  | str (s : Str) : Dt Γ H (.str s) (.str s)
  | ty (n : String) : Dt Γ H (.ty n) (.ty n)
  | cls (n : String) : Dt Γ H (.ref (Γ.ca n)) (.cls n)
  | tup {a : Addr} {vs : List V} {ds : List D} (h : H a = some (.tup vs)) (r : Dts Γ H vs ds) : Dt Γ H (.ref a) (.tup ds)
  | lst {a : Addr} {vs : List V} {ds : List D} (h : H a = some (.lst vs)) (r : Dts Γ H vs ds) : Dt Γ H (.ref a) (.lst ds)
  | slst {a : Addr} {ns : List Int} (h : SqL Γ.K H a (ns.map V.int)) : Dt Γ H (.ref a) (.slst ns)
  | dK {a : Addr} {kvs : List (Key × V)} {ds : List (D × D)} (h : H a = some (.dK kvs)) (r : Dks Γ H kvs ds) : Dt Γ H (.ref a) (.dic ds)
  | dT {a : Addr} {kvs : List (List Key × V)} {ds : List (List Key × D)} (h : Rd H a (.dT kvs)) (r : DkT Γ H kvs ds) : Dt Γ H (.ref a) (.dit ds)
  | dI {a : Addr} {kvs : List (Key × V)} {ds : List (Key × D)} (h : Rd H a (.dK kvs)) (r : DkI Γ H kvs ds) : Dt Γ H (.ref a) (.dii ds)
  | ins {a dx : Addr} {n : String} {fs : List (Str × V)} {gs : List (Str × D)} (h : H a = some (.ins (Γ.ca n) dx fs)) (r : Dfs Γ H fs gs) : Dt Γ H (.ref a) (.ins n gs)
  | exc {a : Addr} {n : String} (h : H a = some (Lk.ExK (.ref (Γ.ca n)) none a)) : Dt Γ H (.ref a) (.exc n [])
  | excF {a x : Addr} {n : String} {fs : List (Str × V)} {gs : List (Str × D)} (h : H a = some (Lk.ExK (.ref (Γ.ca n)) (some x) a)) (hx : H x = some (.xd fs)) (hn : gs ≠ []) (r : Dfs Γ H fs gs) : Dt Γ H (.ref a) (.exc n gs)
inductive Dts (Γ : Ga) (H : Hp) : List V → List D → Prop
  | nil : Dts Γ H [] []
  | cons {v : V} {d : D} {vs : List V} {ds : List D} (h : Dt Γ H v d) (r : Dts Γ H vs ds) : Dts Γ H (v :: vs) (d :: ds)
inductive Dfs (Γ : Ga) (H : Hp) : List (Str × V) → List (Str × D) → Prop
  | nil : Dfs Γ H [] []
  | cons {f : Str} {v : V} {d : D} {vs : List (Str × V)} {ds : List (Str × D)} (h : Dt Γ H v d) (r : Dfs Γ H vs ds) : Dfs Γ H ((f, v) :: vs) ((f, d) :: ds)
inductive Dks (Γ : Ga) (H : Hp) : List (Key × V) → List (D × D) → Prop
  | nil : Dks Γ H [] []
  | cons {k : Key} {v : V} {d : D} {vs : List (Key × V)} {ds : List (D × D)} (h : Dt Γ H v d) (r : Dks Γ H vs ds) : Dks Γ H ((k, v) :: vs) ((dKey k, d) :: ds)
inductive DkT (Γ : Ga) (H : Hp) : List (List Key × V) → List (List Key × D) → Prop
  | nil : DkT Γ H [] []
  | cons {k : List Key} {v : V} {d : D} {vs : List (List Key × V)} {ds : List (List Key × D)} (h : Dt Γ H v d) (r : DkT Γ H vs ds) : DkT Γ H ((k, v) :: vs) ((k, d) :: ds)
inductive DkI (Γ : Ga) (H : Hp) : List (Key × V) → List (Key × D) → Prop
  | nil : DkI Γ H [] []
  | cons {k : Key} {v : V} {d : D} {vs : List (Key × V)} {ds : List (Key × D)} (h : Dt Γ H v d) (r : DkI Γ H vs ds) : DkI Γ H ((k, v) :: vs) ((k, d) :: ds)
end
section
variable {Γ : Ga} {H H' G G' : Hp}
theorem Same.rd {a : Addr} {u : HO} (e : Same H H') (h : Rd H a u) : Rd H' a u := h.elim (fun h => .inl (e _ _ h)) fun ⟨o, h⟩ => .inr ⟨o, e _ _ h⟩
mutual
theorem Dt.same (s : Same H H') : ∀ {v : V} {d : D}, Dt Γ H v d → Dt Γ H' v d
  | _, _, .non => .non
  | _, _, .bl b => .bl b
  | _, _, .int i => .int i
  | _, _, .str x => .str x
  | _, _, .ty n => .ty n
  | _, _, .cls n => .cls n
  | _, _, .tup h r => .tup (s _ _ h) (Dts.same s r)
  | _, _, .lst h r => .lst (s _ _ h) (Dts.same s r)
  | _, _, .slst h => .slst (s.seq h)
  | _, _, .dK h r => .dK (s _ _ h) (Dks.same s r)
  | _, _, .dI h r => .dI (Same.rd s h) (DkI.same s r)
  | _, _, .dT h r => .dT (Same.rd s h) (DkT.same s r)
  | _, _, .ins h r => .ins (s _ _ h) (Dfs.same s r)
  | _, _, .exc h => .exc (s _ _ h)
  | _, _, .excF h hx hn r => .excF (s _ _ h) (s _ _ hx) hn (Dfs.same s r)
theorem Dts.same (s : Same H H') : ∀ {v : List V} {d : List D}, Dts Γ H v d → Dts Γ H' v d
  | _, _, .nil => .nil
  | _, _, .cons h r => .cons (Dt.same s h) (Dts.same s r)
theorem Dfs.same (s : Same H H') : ∀ {v : List (Str × V)} {d : List (Str × D)}, Dfs Γ H v d → Dfs Γ H' v d
  | _, _, .nil => .nil
  | _, _, .cons h r => .cons (Dt.same s h) (Dfs.same s r)
theorem Dks.same (s : Same H H') : ∀ {v : List (Key × V)} {d : List (D × D)}, Dks Γ H v d → Dks Γ H' v d
  | _, _, .nil => .nil
  | _, _, .cons h r => .cons (Dt.same s h) (Dks.same s r)
theorem DkT.same (s : Same H H') : ∀ {v : List (List Key × V)} {d : List (List Key × D)}, DkT Γ H v d → DkT Γ H' v d
  | _, _, .nil => .nil
  | _, _, .cons h r => .cons (Dt.same s h) (DkT.same s r)
theorem DkI.same (s : Same H H') : ∀ {v : List (Key × V)} {d : List (Key × D)}, DkI Γ H v d → DkI Γ H' v d
  | _, _, .nil => .nil
  | _, _, .cons h r => .cons (Dt.same s h) (DkI.same s r)
end
theorem Dts.len : ∀ {v : List V} {d : List D}, Dts Γ H v d → v.length = d.length
  | _, _, .nil => rfl
  | _, _, .cons _ r => congrArg (· + 1) r.len
theorem Dts.app : ∀ {v v2 : List V} {d d2 : List D}, Dts Γ H v d → Dts Γ H v2 d2 → Dts Γ H (v ++ v2) (d ++ d2)
  | _, _, _, _, .nil, s => s
  | _, _, _, _, .cons h r, s => .cons h (r.app s)
theorem Dts.get : ∀ {v : List V} {d : List D} {i : Nat} {x : D}, Dts Γ H v d → d[i]? = some x → ∃ u, v[i]? = some u ∧ Dt Γ H u x
  | _, _, 0, _, .cons h _, e => by
    cases e
    exact ⟨_, rfl, h⟩
  | _, _, i + 1, x, .cons _ r, e => by
    obtain ⟨u, h1, h2⟩ := r.get (i := i) (x := x) (by simpa using e)
    exact ⟨u, by simpa using h1, h2⟩
theorem Dts.set : ∀ {v : List V} {d : List D} (i : Nat) {u : V} {x : D}, Dts Γ H v d → Dt Γ H u x → Dts Γ H (v.set i u) (d.set i x)
  | _, _, _, _, _, .nil, _ => .nil
  | _, _, 0, _, _, .cons _ r, h => .cons h r
  | _, _, i + 1, _, _, .cons h' r, h => .cons h' (r.set i h)
theorem Dts.take : ∀ {v : List V} {d : List D} (n : Nat), Dts Γ H v d → Dts Γ H (v.take n) (d.take n)
  | _, _, 0, _ => .nil
  | _, _, _ + 1, .nil => .nil
  | _, _, n + 1, .cons h r => .cons h (r.take n)
theorem Dts.drop : ∀ {v : List V} {d : List D} (n : Nat), Dts Γ H v d → Dts Γ H (v.drop n) (d.drop n)
  | _, _, 0, r => r
  | _, _, _ + 1, .nil => .nil
  | _, _, n + 1, .cons _ r => r.drop n
theorem Dts.rep {v : List V} {d : List D} (h : Dts Γ H v d) : ∀ k : Nat, Dts Γ H (List.replicate k v).flatten (List.replicate k d).flatten
  | 0 => .nil
  | k + 1 => by
    rw [List.replicate_succ, List.replicate_succ, List.flatten_cons, List.flatten_cons]
    exact h.app (Dts.rep h k)
theorem Dts.ints : ∀ (ns : List Int), Dts Γ H (ns.map V.int) (ns.map D.int)
  | [] => .nil
  | n :: ns => .cons (.int n) (Dts.ints ns)
theorem Dts.of_ints : ∀ {v : List V} {ns : List Int}, Dts Γ H v (ns.map D.int) → v = ns.map V.int
  | _, [], h => by cases h; rfl
  | _, n :: ns, h => by
    cases h with
    | cons h r =>
      cases h
      rw [r.of_ints]
      rfl
theorem Dfs.lookup : ∀ {v : List (Str × V)} {d : List (Str × D)} {f : Str} {x : D}, Dfs Γ H v d → d.lookup f = some x → ∃ u, v.lookup f = some u ∧ Dt Γ H u x
  | _, _, _, _, .nil, e => by cases e
  | _, _, f, x, .cons (f := g) h r, e => by
    rw [List.lookup_cons] at e ⊢
    cases hb : f == g with
    | true =>
      rw [hb] at e
      cases e
      exact ⟨_, rfl, h⟩
    | false =>
      rw [hb] at e
      exact r.lookup e
def putD (f : Str) (v : D) : List (Str × D) → List (Str × D)
  | [] => [(f, v)]
  | (g, x) :: r => if g = f then (g, v) :: r else (g, x) :: putD f v r
theorem Dfs.put : ∀ {v : List (Str × V)} {d : List (Str × D)} {f : Str} {u : V} {x : D}, Dfs Γ H v d → Dt Γ H u x → Dfs Γ H (putF f u v) (putD f x d)
  | _, _, _, _, _, .nil, h => .cons h .nil
  | _, _, f, _, _, .cons (f := g) h' r, h => by
    unfold putF putD
    by_cases e : g = f
    · rw [if_pos e, if_pos e]
      exact .cons h r
    · rw [if_neg e, if_neg e]
      exact .cons h' (r.put h)
theorem Dfs.len : ∀ {v : List (Str × V)} {d : List (Str × D)}, Dfs Γ H v d → v.length = d.length
  | _, _, .nil => rfl
  | _, _, .cons _ r => congrArg (· + 1) r.len
end
/-! ### what one alone holds -/
inductive OwnO (Γ : Ga) (G : Hp) : HO → D → Prop
  | lst {vs : List V} {ds : List D} (r : Dts Γ G vs ds) : OwnO Γ G (.lst vs) (.lst ds)
  | ins {n : String} {dx : Addr} {fs : List (Str × V)} {gs : List (Str × D)} (r : Dfs Γ G fs gs) : OwnO Γ G (.ins (Γ.ca n) dx fs) (.ins n gs)
  | dK {kvs : List (Key × V)} {ds : List (D × D)} (r : Dks Γ G kvs ds) : OwnO Γ G (.dK kvs) (.dic ds)
  | dT {kvs : List (List Key × V)} {ds : List (List Key × D)} (r : DkT Γ G kvs ds) : OwnO Γ G (.dT kvs) (.dit ds)
  | dI {kvs : List (Key × V)} {ds : List (Key × D)} (r : DkI Γ G kvs ds) : OwnO Γ G (.dK kvs) (.dii ds)
section
variable {Γ : Ga} {H H' G G' : Hp} {a : Addr} {o : HO} {d : D}
theorem OwnO.same (s : Same G G') (h : OwnO Γ G o d) : OwnO Γ G' o d := by
  cases h with
  | lst r => exact .lst (r.same s)
  | ins r => exact .ins (r.same s)
  | dK r => exact .dK (r.same s)
  | dT r => exact .dT (r.same s)
  | dI r => exact .dI (r.same s)
theorem OwnO.dt (h : OwnO Γ G o d) (e : G a = some o) : Dt Γ G (.ref a) d := by
  cases h with
  | lst r => exact .lst e r
  | ins r => exact .ins e r
  | dK r => exact .dK e r
  | dT r => exact .dT (.inl e) r
  | dI r => exact .dI (.inl e) r
end
abbrev Env := List (Option D)
/-- the addresses at the slots cs -/
def T (cs : List Nat) (σ : L2.St) (a : Addr) : Prop := ∃ i ∈ cs, σ[i]? = some (some (.ref a))
/-- the slots are as ρ says; those at cs hold what nobody else knows; G is what stands for good -/
structure Rep (Γ : Ga) (cs : List Nat) (σ : L2.St) (H G : Hp) (ρ : Env) : Prop where
  len : ρ.length = σ.length
  sub : Same G H
  un : ∀ i : Nat, ρ[i]? = some none → σ[i]? = some none
  dat : ∀ (i : Nat) (d : D), i ∉ cs → ρ[i]? = some (some d) → ∃ v, σ[i]? = some (some v) ∧ Dt Γ G v d
  own : ∀ (i : Nat) (d : D), i ∈ cs → ρ[i]? = some (some d) → ∃ a o, σ[i]? = some (some (.ref a)) ∧ H a = some o ∧ G a = none ∧ OwnO Γ G o d
  sep : ∀ (i j : Nat) (a : Addr), i ∈ cs → j ∈ cs → σ[i]? = some (some (.ref a)) → σ[j]? = some (some (.ref a)) → i = j
/-- a thing, no tuple -/
def Nt (H : Hp) (a : Addr) : Prop := H a ≠ none ∧ ∀ vs, H a ≠ some (.tup vs)
theorem Nt.step {H H1 : Hp} {a : Addr} (h : Nt H a) (s : ∀ o, H a = some o → H1 a = some o) : Nt H1 a := by
  cases e : H a with
  | none => exact absurd e h.1
  | some o =>
    have e1 := s o e
    exact ⟨(by rw [e1]; intro z; cases z), fun vs => by rw [e1, ← e]; exact h.2 vs⟩
theorem Nt.of {H : Hp} {a : Addr} {o : HO} (e : H a = some o) (n : ∀ vs, o ≠ .tup vs) : Nt H a := ⟨(by rw [e]; intro z; cases z), fun vs => by rw [e]; intro z; exact n vs (Option.some.inj z)⟩
theorem OwnO.nt {Γ : Ga} {H G : Hp} {a : Addr} {o : HO} {d : D} (h : OwnO Γ G o d) (e : H a = some o) : Nt H a := .of e (by cases h <;> exact fun _ z => nomatch z)
/-- a step: what stands stays, but for what lies at T; what stood apart from G stays apart -/
structure Stp (T : Addr → Prop) (H G H' G' : Hp) : Prop where
  g : Same G G'
  h : ∀ a o, H a = some o → ¬ T a → H' a = some o
  t : ∀ a, H a ≠ none → H' a ≠ none
  n : ∀ a, G a = none → Nt H a → ¬ T a → G' a = none
section
variable {T0 T1 : Addr → Prop} {H G H1 G1 H2 G2 : Hp}
theorem Stp.refl : Stp T0 H G H G := ⟨Same.refl _, fun _ _ h _ => h, fun _ h => h, fun _ h _ _ => h⟩
theorem Stp.trans (a : Stp T0 H G H1 G1) (b : Stp T1 H1 G1 H2 G2) (hT : ∀ x, T1 x → T0 x ∨ H x = none) : Stp T0 H G H2 G2 where
  g := a.g.trans b.g
  h := fun x o hx nx => b.h x o (a.h x o hx nx) fun z => (hT x z).elim nx fun e => by rw [hx] at e; cases e
  t := fun x hx => b.t x (a.t x hx)
  n := fun x gx hx nx => b.n x (a.n x gx hx nx) (hx.step fun o e => a.h x o e nx) fun z => (hT x z).elim nx hx.1
theorem Stp.mono (a : Stp T0 H G H1 G1) (hT : ∀ x, T0 x → T1 x) : Stp T1 H G H1 G1 := ⟨a.g, fun x o hx nx => a.h x o hx fun z => nx (hT x z), a.t, fun x gx hx nx => a.n x gx hx fun z => nx (hT x z)⟩
theorem Stp.tr (a : Stp T0 H G H1 G1) (b : Stp T0 H1 G1 H2 G2) : Stp T0 H G H2 G2 := a.trans b fun _ z => .inl z
end
/-- a step that touches nothing that stood -/
structure Ext (H G H' G' : Hp) : Prop where
  st : Stp (fun _ => False) H G H' G'
  sub : Same G' H'
section
variable {Γ : Ga} {cs ts : List Nat} {σ : L2.St} {H G H' G' : Hp} {ρ : Env} {a : Addr} {o : HO}
theorem Ext.h (e : Ext H G H' G') : Same H H' := fun x u hx => e.st.h x u hx fun z => z
theorem Ext.refl (s : Same G H) : Ext H G H G := ⟨Stp.refl, s⟩
theorem Ext.any (e : Ext H G H' G') {T0 : Addr → Prop} : Stp T0 H G H' G' := e.st.mono fun _ z => z.elim
theorem Ext.trans {H2 G2 : Hp} (a : Ext H G H' G') (b : Ext H' G' H2 G2) : Ext H G H2 G2 := ⟨a.st.tr b.st, b.sub⟩
/-- a new object that stands for good -/
theorem Ext.new (s : Same G H) (h : H a = none) : Ext H G (upd H a o) (upd G a o) := by
  have ga : G a = none := by
    cases e : G a with
    | none => rfl
    | some u => rw [s _ _ e] at h; cases h
  refine ⟨⟨fun x u hx => ?_, fun x u hx _ => ?_, fun x hx => ?_, fun x gx hx _ => ?_⟩, fun x u hx => ?_⟩
  · rw [upd_ne (ne_of_none hx ga)]; exact hx
  · rw [upd_ne (ne_of_none hx h)]; exact hx
  · by_cases e : x = a
    · rw [e, upd_same]; intro z; cases z
    · rw [upd_ne e]; exact hx
  · rw [upd_ne (fun e => hx.1 (by rw [e]; exact h))]; exact gx
  · by_cases e : x = a
    · rw [e, upd_same] at hx ⊢; exact hx
    · rw [upd_ne e] at hx ⊢; exact s _ _ hx
/-- a new object that is no one's yet -/
theorem Ext.newOwn (s : Same G H) (h : H a = none) : Ext H G (upd H a o) G := by
  refine ⟨⟨Same.refl _, fun x u hx _ => ?_, fun x hx => ?_, fun x gx hx _ => gx⟩, fun x u hx => ?_⟩
  · rw [upd_ne (ne_of_none hx h)]; exact hx
  · by_cases e : x = a
    · rw [e, upd_same]; intro z; cases z
    · rw [upd_ne e]; exact hx
  · have hx2 := s _ _ hx
    rw [upd_ne (ne_of_none hx2 h)]; exact hx2
theorem free_sub (s : Same G H) (h : H a = none) : G a = none := by
  cases e : G a with
  | none => rfl
  | some u => rw [s _ _ e] at h; cases h
theorem Rep.cell (r : Rep Γ cs σ H G ρ) {i : Nat} (hi : i ∈ cs) {v : V} (h : σ[i]? = some (some v)) : ∃ d a o, v = .ref a ∧ ρ[i]? = some (some d) ∧ H a = some o ∧ G a = none ∧ OwnO Γ G o d := by
  have hl : i < ρ.length := by rw [r.len]; exact (List.getElem?_eq_some_iff.mp h).1
  cases e : ρ[i]? with
  | none => rw [List.getElem?_eq_none_iff] at e; omega
  | some x =>
    cases x with
    | none => rw [r.un i e] at h; cases h
    | some d =>
      obtain ⟨a, o, h1, h2, h3, h4⟩ := r.own i d hi e
      rw [h] at h1
      exact ⟨d, a, o, Option.some.inj (Option.some.inj h1), rfl, h2, h3, h4⟩
theorem Rep.tc (r : Rep Γ cs σ H G ρ) {a : Addr} (h : T cs σ a) : H a ≠ none ∧ G a = none := by
  obtain ⟨i, hi, e⟩ := h
  obtain ⟨d, b, o, hv, hr, h2, h3, hw⟩ := r.cell hi e
  injection hv with hv
  subst hv
  exact ⟨(by rw [h2]; intro z; cases z), h3⟩
theorem Rep.Tn (r : Rep Γ cs σ H G ρ) {a : Addr} (h : H a = none) : ¬ T cs σ a := fun z => (r.tc z).1 h
/-- the representation behind a step that touches none of it -/
theorem Rep.ext (r : Rep Γ cs σ H G ρ) (e : Ext H G H' G') : Rep Γ cs σ H' G' ρ where
  len := r.len
  sub := e.sub
  un := r.un
  dat := fun i d hi h => let ⟨v, h1, h2⟩ := r.dat i d hi h; ⟨v, h1, h2.same e.st.g⟩
  own := fun i d hi h => by
    obtain ⟨a, o, h1, h2, h3, h4⟩ := r.own i d hi h
    exact ⟨a, o, h1, e.h _ _ h2, e.st.n a h3 (h4.nt h2) (fun z => z), h4.same e.st.g⟩
  sep := r.sep
/-- some of the cells are given up -/
theorem Rep.freeze (r : Rep Γ cs σ H G ρ) {cs' : List Nat} (hs : ∀ i ∈ cs', i ∈ cs) : ∃ G', Rep Γ cs' σ H G' ρ ∧ Same G G' ∧ ∀ a, G a = none → ¬ T cs σ a → G' a = none := by
  classical
  let P : Addr → Prop := fun a => ∃ i, i ∈ cs ∧ i ∉ cs' ∧ σ[i]? = some (some (.ref a))
  let G' : Hp := fun a => if P a then H a else G a
  have gP : ∀ a, P a → G' a = H a := fun a h => if_pos h
  have gN : ∀ a, ¬ P a → G' a = G a := fun a h => if_neg h
  have PT : ∀ a, P a → T cs σ a := fun a h => by
    obtain ⟨i, h1, _, h3⟩ := h
    exact ⟨i, h1, h3⟩
  have sg : Same G G' := fun a o h => by
    by_cases p : P a
    · rw [gP a p]; exact r.sub _ _ h
    · rw [gN a p]; exact h
  refine ⟨G', ⟨r.len, fun a o h => ?_, r.un, fun i d hi h => ?_, fun i d hi h => ?_, fun i j a hi hj => r.sep i j a (hs i hi) (hs j hj)⟩, sg, fun a h n => ?_⟩
  · by_cases p : P a
    · rw [gP a p] at h; exact h
    · rw [gN a p] at h; exact r.sub _ _ h
  · by_cases hc : i ∈ cs
    · obtain ⟨a, o, h1, h2, h3, h4⟩ := r.own i d hc h
      refine ⟨.ref a, h1, (h4.same sg).dt ?_⟩
      rw [gP a ⟨i, hc, hi, h1⟩]
      exact h2
    · obtain ⟨v, h1, h2⟩ := r.dat i d hc h
      exact ⟨v, h1, h2.same sg⟩
  · obtain ⟨a, o, h1, h2, h3, h4⟩ := r.own i d (hs i hi) h
    refine ⟨a, o, h1, h2, ?_, h4.same sg⟩
    rw [gN a fun ⟨j, q1, q2, q3⟩ => q2 (by rw [r.sep j i a q1 (hs i hi) q3 h1]; exact hi)]
    exact h3
  · rw [gN a fun p => n (PT a p)]
    exact h
end
/-! ### results -/
inductive Md | full | root | own
  deriving DecidableEq
/-- what a result is: data for good; data whose root may be a cell's; a new object of nobody's -/
def RM (Γ : Ga) (m : Md) (H0 H G : Hp) (v : V) (d : D) : Prop := match m with
  | .full => Dt Γ G v d
  | .root => Dt Γ G v d ∨ ∃ a o, v = .ref a ∧ H a = some o ∧ OwnO Γ G o d
  | .own => ∃ a o, v = .ref a ∧ H0 a = none ∧ H a = some o ∧ G a = none ∧ OwnO Γ G o d
theorem RM.back {Γ : Ga} {m : Md} {H0 H1 H G : Hp} {v : V} {d : D} (r : RM Γ m H1 H G v d) (t : ∀ a, H0 a ≠ none → H1 a ≠ none) : RM Γ m H0 H G v d := by
  cases m with
  | full => exact r
  | root => exact r
  | own =>
    obtain ⟨a, o, h1, h2, h3, h4, h5⟩ := r
    refine ⟨a, o, h1, ?_, h3, h4, h5⟩
    cases e : H0 a with
    | none => rfl
    | some u => exact absurd h2 (t a (by rw [e]; intro z; cases z))
inductive R | ok (d : D) (ρ : Env) | ex (x : D) (ρ : Env)
abbrev E := Env → Option R
/-- an exception as it comes -/
def Dx (Γ : Ga) (H G : Hp) (c : Value) (dx : Option Addr) (x : D) : Prop := ∃ n fs, x = .exc n fs ∧ c = .ref (Γ.ca n) ∧ ((fs = [] ∧ dx = none) ∨ ∃ a gs, dx = some a ∧ G a = some (.xd gs) ∧ fs ≠ [] ∧ Dfs Γ G gs fs)
def Fin (Γ : Ga) (cs ts : List Nat) (W : WX) (m : Md) (σ : L2.St) (H G : Hp) (Q : VK) : Option R → Prop
  | none => False
  | some (.ok d ρ') => ∀ v H' G', Rep Γ cs σ H' G' ρ' → Stp (T ts σ) H G H' G' → RM Γ m H H' G' v d → Q v H'
  | some (.ex x ρ') => ∀ c dx H' G', Rep Γ cs σ H' G' ρ' → Stp (T ts σ) H G H' G' → Dx Γ H' G' c dx x → W c dx σ H'
/-- an expression's reading by its mirror f -/
def tE (Γ : Ga) (cs ts : List Nat) (W : WX) (m : Md) (f : E) : TE := fun σ H Q => ∃ G ρ, Rep Γ cs σ H G ρ ∧ Fin Γ cs ts W m σ H G Q (f ρ)
theorem PE.imp {X : Cx} {e : Expr} {t t' : TE} (h : PE X e t) (k : ∀ σ H Q, t' σ H Q → t σ H Q) : PE X e t' := ⟨fun pins s σ H Q I hw => h.run pins s σ H Q I (k σ H Q hw)⟩
theorem PT.imp {X : Cx} {e : Expr} {t t' : TT} (h : PT X e t) (k : ∀ σ H Q, t' σ H Q → t σ H Q) : PT X e t' := ⟨fun pins s σ H Q I hw => h.run pins s σ H Q I (k σ H Q hw)⟩
theorem PW.imp {X : Cx} {e : Expr} {t t' : TT} (h : PW X e t) (k : ∀ σ H Q, t' σ H Q → t σ H Q) : PW X e t' := ⟨fun wh pins s σ H Q I hw => h.run wh pins s σ H Q I (k σ H Q hw)⟩
theorem PA.imp {X : Cx} {e : List Expr} {t t' : TA} (h : PA X e t) (k : ∀ σ H Q, t' σ H Q → t σ H Q) : PA X e t' := ⟨fun p pins s σ H Q I hw => h.run p pins s σ H Q I (k σ H Q hw)⟩
theorem PS.imp {X : Cx} {e : Stmt} {t t' : TS} (h : PS X e t) (k : ∀ D σ H, t' D σ H → t D σ H) : PS X e t' := ⟨fun pins s σ H D I hw => h.run pins s σ H D I (k D σ H hw)⟩
theorem PSs.imp {X : Cx} {e : List Stmt} {t t' : TS} (h : PSs X e t) (k : ∀ D σ H, t' D σ H → t D σ H) : PSs X e t' := ⟨fun pins s σ H D I hw => h.run pins s σ H D I (k D σ H hw)⟩
def eBind (r : Option R) (k : D → Env → Option R) : Option R := match r with
  | none => none
  | some (.ok d ρ) => k d ρ
  | some (.ex x ρ) => some (.ex x ρ)
@[simp] theorem eBind_ok {d : D} {ρ : Env} {k : D → Env → Option R} : eBind (some (.ok d ρ)) k = k d ρ := rfl
@[simp] theorem eBind_ex {d : D} {ρ : Env} {k : D → Env → Option R} : eBind (some (.ex d ρ)) k = some (.ex d ρ) := rfl
@[simp] theorem eBind_none {k : D → Env → Option R} : eBind none k = none := rfl
def lift (o : Option D) (ρ : Env) : Option R := o.map fun d => .ok d ρ
@[simp] theorem lift_some {d : D} {ρ : Env} : lift (some d) ρ = some (.ok d ρ) := rfl
@[simp] theorem lift_none {ρ : Env} : lift none ρ = none := rfl
section
variable {Γ : Ga} {cs ts ts1 : List Nat} {W : WX} {m m1 : Md} {σ : L2.St} {H G H1 G1 : Hp} {ρ : Env} {Q Q1 : VK} {f g : E} {r : Option R}
theorem Fin.step (h : Fin Γ cs ts W m σ H G Q r) (s : Stp (T ts σ) H G H1 G1) : Fin Γ cs ts W m σ H1 G1 Q r := by
  rcases r with _ | ⟨d, ρ'⟩ | ⟨x, ρ'⟩
  · exact h
  · exact fun v H' G' rep st rm => h v H' G' rep (s.tr st) (rm.back s.t)
  · exact fun c dx H' G' rep st q => h c dx H' G' rep (s.tr st) q
theorem T.sub (hs : ∀ i ∈ ts1, i ∈ ts) {a : Addr} (h : T ts1 σ a) : T ts σ a := let ⟨i, hi, e⟩ := h; ⟨i, hs i hi, e⟩
theorem fin_bind {k : D → Env → Option R} (hs : ∀ i ∈ ts1, i ∈ ts) (fin : Fin Γ cs ts W m σ H G Q (eBind r k))
    (hk : ∀ v d ρ1 H1 G1, Rep Γ cs σ H1 G1 ρ1 → Stp (T ts1 σ) H G H1 G1 → RM Γ m1 H H1 G1 v d → Fin Γ cs ts W m σ H G Q (k d ρ1) → Q1 v H1) : Fin Γ cs ts1 W m1 σ H G Q1 r := by
  rcases r with _ | ⟨d, ρ'⟩ | ⟨x, ρ'⟩
  · exact fin
  · exact fun v H' G' rep st rm => hk v d ρ' H' G' rep st rm fin
  · exact fun c dx H' G' rep st q => fin c dx H' G' rep (st.mono fun _ z => T.sub hs z) q
theorem nil_sub : ∀ i ∈ ([] : List Nat), i ∈ ts := fun i h => absurd h List.not_mem_nil
theorem all_sub : ∀ i ∈ ts, i ∈ ts := fun i h => h
theorem T.nil {a : Addr} : ¬ T [] σ a := fun ⟨_, h, _⟩ => absurd h List.not_mem_nil
/-- the end of an expression: its value stands behind a step that touches nothing -/
theorem fin_ret {d : D} {v : V} (fin : Fin Γ cs ts W m σ H G Q (some (.ok d ρ))) (rep : Rep Γ cs σ H G ρ) {H' G' : Hp} (e : Ext H G H' G') (rm : RM Γ m H H' G' v d) : Q v H' := fin v H' G' (rep.ext e) e.any rm
/-- modes -/
theorem me_root {X : Cx} {e : Expr} (h : PE X e (tE Γ cs ts W .full f)) : PE X e (tE Γ cs ts W .root f) := PE.imp h fun σ H Q ⟨G, ρ, rep, fin⟩ => ⟨G, ρ, rep, by
  revert fin
  cases f ρ with
  | none => exact fun h => h
  | some r =>
    cases r with
    | ok d ρ' => exact fun h v H' G' r s q => h v H' G' r s (.inl q)
    | ex x ρ' => exact fun h => h⟩
theorem own_full {H0 H' G' : Hp} {v : V} {d : D} {ρ' : Env} (rep0 : Rep Γ cs σ H0 G ρ) (rep : Rep Γ cs σ H' G' ρ') (st : Stp (T ts σ) H0 G H' G') (rm : RM Γ .own H0 H' G' v d) :
    ∃ G2, Rep Γ cs σ H' G2 ρ' ∧ Stp (T ts σ) H0 G H' G2 ∧ Dt Γ G2 v d ∧ Same G' G2 := by
  obtain ⟨a, o, rfl, h1, h2, h3, h4⟩ := rm
  have sg : Same G' (upd G' a o) := fun x u hx => by rw [upd_ne (ne_of_none hx h3)]; exact hx
  refine ⟨upd G' a o, ⟨rep.len, fun x u hx => ?_, rep.un, fun i d hi h => ?_, fun i d hi h => ?_, rep.sep⟩, ⟨st.g.trans sg, st.h, st.t, fun x gx hx nx => ?_⟩, (h4.same sg).dt upd_same, sg⟩
  · by_cases e : x = a
    · rw [e, upd_same] at hx; rw [e, h2]; exact hx
    · rw [upd_ne e] at hx; exact rep.sub _ _ hx
  · obtain ⟨v, q1, q2⟩ := rep.dat i d hi h
    exact ⟨v, q1, q2.same sg⟩
  · obtain ⟨b, u, q1, q2, q3, q4⟩ := rep.own i d hi h
    refine ⟨b, u, q1, q2, ?_, q4.same sg⟩
    rw [upd_ne]
    · exact q3
    · rintro rfl
      exact (rep0.tc ⟨i, hi, q1⟩).1 h1
  · rw [upd_ne]
    · exact st.n x gx hx nx
    · rintro rfl
      exact hx.1 h1
theorem me_own {X : Cx} {e : Expr} (h : PE X e (tE Γ cs ts W .own f)) : PE X e (tE Γ cs ts W .full f) := PE.imp h fun σ H Q ⟨G, ρ, rep, fin⟩ => ⟨G, ρ, rep, by
  revert fin
  cases f ρ with
  | none => exact fun h => h
  | some r =>
    cases r with
    | ok d ρ' =>
      intro h v H' G' r s q
      obtain ⟨G2, r2, s2, d2, _⟩ := own_full rep r s q
      exact h v H' G2 r2 s2 d2
    | ex x ρ' => exact fun h => h⟩
theorem me_ownR {X : Cx} {e : Expr} (h : PE X e (tE Γ cs ts W .own f)) : PE X e (tE Γ cs ts W .root f) := me_root (me_own h)
/-! ### names and constants -/
def eV (i : Nat) : E := fun ρ => match ρ[i]? with
  | some (some d) => some (.ok d ρ)
  | _ => none
def eC (d : D) : E := fun ρ => some (.ok d ρ)
theorem me_v {X : Cx} {e : Expr} {i : Nat} (h : PE X e (tVar i)) (hi : i ∉ cs := by decide) : PE X e (tE Γ cs ts W .full (eV i)) := PE.imp h fun σ H Q ⟨G, ρ, rep, fin⟩ => by
  unfold eV at fin
  cases e : ρ[i]? with
  | none => rw [e] at fin; exact fin.elim
  | some x =>
    cases x with
    | none => rw [e] at fin; exact fin.elim
    | some d =>
      rw [e] at fin
      obtain ⟨v, h1, h2⟩ := rep.dat i d hi e
      exact ⟨v, h1, fin v H G rep Stp.refl h2⟩
theorem me_cv {X : Cx} {e : Expr} {i : Nat} (h : PE X e (tVar i)) (hi : i ∈ cs := by decide) : PE X e (tE Γ cs ts W .root (eV i)) := PE.imp h fun σ H Q ⟨G, ρ, rep, fin⟩ => by
  unfold eV at fin
  cases e : ρ[i]? with
  | none => rw [e] at fin; exact fin.elim
  | some x =>
    cases x with
    | none => rw [e] at fin; exact fin.elim
    | some d =>
      rw [e] at fin
      obtain ⟨a, o, h1, h2, h3, h4⟩ := rep.own i d hi e
      exact ⟨.ref a, h1, fin (.ref a) H G rep Stp.refl (.inr ⟨a, o, rfl, h2, h4⟩)⟩
theorem me_c {X : Cx} {e : Expr} {v : V} {d : D} (h : PE X e (tC v)) (hd : ∀ H, Dt Γ H v d) : PE X e (tE Γ cs ts W .full (eC d)) := PE.imp h fun σ H Q ⟨G, ρ, rep, fin⟩ => fin v H G rep Stp.refl (hd G)
theorem me_int {X : Cx} {i : Int} {j pos} : PE X (.Constant (.int i) j pos) (tE Γ cs ts W .full (eC (.int i))) := me_c pe_int fun _ => .int i
theorem me_bl {X : Cx} {b : Bool} {j pos} : PE X (.Constant (.bool b) j pos) (tE Γ cs ts W .full (eC (.bl b))) := me_c pe_bl fun _ => .bl b
theorem me_non {X : Cx} {j pos} : PE X (.Constant .none j pos) (tE Γ cs ts W .full (eC .non)) := me_c pe_non fun _ => .non
theorem me_str {X : Cx} {x : Str} {j pos} : PE X (.Constant (.str x) j pos) (tE Γ cs ts W .full (eC (.str x))) := me_c pe_str fun _ => .str x
/-! ### operations by values -/
def e1 (op : D → Option D) (f : E) : E := fun ρ => eBind (f ρ) fun a ρ1 => lift (op a) ρ1
def e2 (op : D → D → Option D) (f g : E) : E := fun ρ => eBind (f ρ) fun a ρ1 => eBind (g ρ1) fun b ρ2 => lift (op a b) ρ2
/-- r tells no more than op does -/
def So1 (Γ : Ga) (m : Md) (r : V → Hp → VK → Prop) (op : D → Option D) : Prop := ∀ (H G : Hp) (x : V) (a z : D) (Q : VK), Same G H → RM Γ .root H H G x a → op a = some z →
  (∀ v H' G', Ext H G H' G' → RM Γ m H H' G' v z → Q v H') → r x H Q
def So2 (Γ : Ga) (m : Md) (r : R2) (op : D → D → Option D) : Prop := ∀ (H G : Hp) (x y : V) (a b z : D) (Q : VK), Same G H → RM Γ .root H H G x a → RM Γ .root H H G y b → op a b = some z →
  (∀ v H' G', Ext H G H' G' → RM Γ m H H' G' v z → Q v H') → r x y H Q
theorem core2 {ta tb : TE} {r : R2} {op : D → D → Option D} (so : So2 Γ m r op) (ha : ∀ σ H Q, tE Γ cs ts W .full f σ H Q → ta σ H Q) (hb : ∀ σ H Q, tE Γ cs ts W .root g σ H Q → tb σ H Q) {σ : L2.St} {H : Hp} {Q : VK}
    (h : tE Γ cs ts W m (e2 op f g) σ H Q) : tOp r ta tb σ H Q := by
  obtain ⟨G, ρ, rep, fin⟩ := h
  refine ha σ H _ ⟨G, ρ, rep, fin_bind all_sub fin fun v d ρ1 H1 G1 rep1 st1 rm1 fin1 => ?_⟩
  refine hb σ H1 _ ⟨G1, ρ1, rep1, fin_bind all_sub (fin1.step st1) fun v2 d2 ρ2 H2 G2 rep2 st2 rm2 fin2 => ?_⟩
  cases e : op d d2 with
  | none => rw [e] at fin2; exact fin2.elim
  | some z =>
    rw [e] at fin2
    exact so H2 G2 v v2 d d2 z Q rep2.sub (.inl (Dt.same st2.g rm1)) (show RM Γ .root H2 H2 G2 v2 d2 from rm2) e fun u H' G' ex rm => fin_ret (fin2.step st2) rep2 ex rm
/-- .. the first one may be a cell's, the second one touches nothing -/
theorem core2R {ta tb : TE} {r : R2} {op : D → D → Option D} (so : So2 Γ m r op) (ha : ∀ σ H Q, tE Γ cs ts W .root f σ H Q → ta σ H Q) (hb : ∀ σ H Q, tE Γ cs [] W .root g σ H Q → tb σ H Q) {σ : L2.St} {H : Hp} {Q : VK}
    (h : tE Γ cs ts W m (e2 op f g) σ H Q) : tOp r ta tb σ H Q := by
  obtain ⟨G, ρ, rep, fin⟩ := h
  refine ha σ H _ ⟨G, ρ, rep, fin_bind all_sub fin fun v d ρ1 H1 G1 rep1 st1 rm1 fin1 => ?_⟩
  refine hb σ H1 _ ⟨G1, ρ1, rep1, fin_bind nil_sub (fin1.step st1) fun v2 d2 ρ2 H2 G2 rep2 st2 rm2 fin2 => ?_⟩
  cases e : op d d2 with
  | none => rw [e] at fin2; exact fin2.elim
  | some z =>
    rw [e] at fin2
    refine so H2 G2 v v2 d d2 z Q rep2.sub ?_ (show RM Γ .root H2 H2 G2 v2 d2 from rm2) e fun u H' G' ex rm => fin_ret (fin2.step (st2.mono fun _ z => absurd z T.nil)) rep2 ex rm
    rcases rm1 with z | ⟨a, o, h1, h2, h3⟩
    · exact .inl (Dt.same st2.g z)
    · exact .inr ⟨a, o, h1, st2.h _ _ h2 T.nil, h3.same st2.g⟩
section
variable {X : Cx} {a b : Expr} {pos : Pos} {r2 : R2} {op2 : D → D → Option D} {r1 : V → Hp → VK → Prop} {op1 : D → Option D}
theorem me_op {o : Operator} (ho : OpR X (binaryOp o) r2) (so : So2 Γ m r2 op2) (ha : PE X a (tE Γ cs ts W .full f)) (hb : PE X b (tE Γ cs ts W .root g)) : PE X (.BinOp a o b pos) (tE Γ cs ts W m (e2 op2 f g)) :=
  PE.imp (pe_op ho ha hb) fun _ _ _ h => core2 so (fun _ _ _ h => h) (fun _ _ _ h => h) h
theorem me_ix (ho : IxR X r2) (so : So2 Γ m r2 op2) (ha : PE X a (tE Γ cs ts W .full f)) (hb : PE X b (tE Γ cs ts W .root g)) (hs : PlainIx b) : PE X (.Subscript a b pos) (tE Γ cs ts W m (e2 op2 f g)) :=
  PE.imp (pe_ix ho ha hb hs) fun _ _ _ h => core2 so (fun _ _ _ h => h) (fun _ _ _ h => h) h
theorem me_ixR (ho : IxR X r2) (so : So2 Γ m r2 op2) (ha : PE X a (tE Γ cs ts W .root f)) (hb : PE X b (tE Γ cs [] W .root g)) (hs : PlainIx b) : PE X (.Subscript a b pos) (tE Γ cs ts W m (e2 op2 f g)) :=
  PE.imp (pe_ix ho ha hb hs) fun _ _ _ h => core2R so (fun _ _ _ h => h) (fun _ _ _ h => h) h
theorem me_cmp {o : CmpOp} (ho : OpR X (compareOp o) r2) (so : So2 Γ m r2 op2) (ha : PE X a (tE Γ cs ts W .full f)) (hb : PE X b (tE Γ cs ts W .root g)) (hm : behindInMarks o b = false) : PE X (.Compare a [o] [b] pos) (tE Γ cs ts W m (e2 op2 f g)) :=
  PE.imp (pe_cmpR ho ha hb hm) fun _ _ _ h => core2 so (fun _ _ _ h => h) (fun _ _ _ h => h) h
/-! ### tests -/
def FinT (Γ : Ga) (cs ts : List Nat) (W : WX) (σ : L2.St) (H G : Hp) (Q : Bool → Hp → Prop) : Option R → Prop
  | some (.ok (.bl b) ρ') => ∀ H' G', Rep Γ cs σ H' G' ρ' → Stp (T ts σ) H G H' G' → Q b H'
  | some (.ex x ρ') => ∀ c dx H' G', Rep Γ cs σ H' G' ρ' → Stp (T ts σ) H G H' G' → Dx Γ H' G' c dx x → W c dx σ H'
  | _ => False
def tT (Γ : Ga) (cs ts : List Nat) (W : WX) (f : E) : TT := fun σ H Q => ∃ G ρ, Rep Γ cs σ H G ρ ∧ FinT Γ cs ts W σ H G Q (f ρ)
theorem FinT.fin {Q : Bool → Hp → Prop} (h : FinT Γ cs ts W σ H G Q r) : Fin Γ cs ts W .full σ H G (fun x H1 => ∃ c, x = .bl c ∧ Q c H1) r := by
  rcases r with _ | ⟨d, ρ'⟩ | ⟨x, ρ'⟩
  · exact h
  · cases d with
    | bl b =>
      intro v H' G' rep st rm
      cases (show Dt Γ G' v (.bl b) from rm)
      exact ⟨b, rfl, h H' G' rep st⟩
    | _ => exact (show False from h).elim
  · exact h
theorem tT.te {Q : Bool → Hp → Prop} (h : tT Γ cs ts W f σ H Q) : tE Γ cs ts W .full f σ H (fun x H1 => ∃ c, x = .bl c ∧ Q c H1) := let ⟨G, ρ, rep, fin⟩ := h; ⟨G, ρ, rep, fin.fin⟩
theorem mt_val {e : Expr} (h : PE X e (tE Γ cs ts W .full f)) (he : ∀ whole, isTrue e X.env whole = (do let v ← whole; standAt e.pos; holding [v] (truthy v)) := by intro _; rfl) : PT X e (tT Γ cs ts W f) :=
  PT.imp (pt_val h he) fun _ _ _ h => h.te
theorem mt_cmp {o : CmpOp} (ho : OpR X (compareOp o) r2) (so : So2 Γ .full r2 op2) (ha : PE X a (tE Γ cs ts W .full f)) (hb : PE X b (tE Γ cs ts W .root g)) (hm : behindInMarks o b = false) : PT X (.Compare a [o] [b] pos) (tT Γ cs ts W (e2 op2 f g)) :=
  PT.imp (pt_cmpR ho ha hb hm) fun _ _ _ h => core2 so (fun _ _ _ h => h) (fun _ _ _ h => h) h.te
theorem FinT.step {Q : Bool → Hp → Prop} (h : FinT Γ cs ts W σ H G Q r) (s : Stp (T ts σ) H G H1 G1) : FinT Γ cs ts W σ H1 G1 Q r := by
  rcases r with _ | ⟨d, ρ'⟩ | ⟨x, ρ'⟩
  · exact h
  · cases d with
    | bl b => exact fun H' G' rep st => h H' G' rep (s.tr st)
    | _ => exact (show False from h).elim
  · exact fun c dx H' G' rep st q => h c dx H' G' rep (s.tr st) q
/-- a test, then what hangs on it -/
def eIf (t f g : E) : E := fun ρ => eBind (t ρ) fun d ρ1 => match d with
  | .bl true => f ρ1
  | .bl false => g ρ1
  | _ => none
theorem bool_split {k1 k2 : Env → Option R} : (fun (d : D) (ρ1 : Env) => match d with
    | .bl true => k1 ρ1
    | .bl false => k2 ρ1
    | _ => none) = fun d ρ1 => match d with
    | .bl b => (fun b ρ1 => if b = true then k1 ρ1 else k2 ρ1) b ρ1
    | _ => none := by
  funext d ρ1
  cases d with
  | bl b => cases b <;> rfl
  | _ => rfl
def eNot (f : E) : E := fun ρ => eBind (f ρ) fun d ρ1 => match d with
  | .bl b => some (.ok (.bl (!b)) ρ1)
  | _ => none
def eAnd (f g : E) : E := fun ρ => eBind (f ρ) fun d ρ1 => match d with
  | .bl true => g ρ1
  | .bl false => some (.ok (.bl false) ρ1)
  | _ => none
def eOr (f g : E) : E := fun ρ => eBind (f ρ) fun d ρ1 => match d with
  | .bl true => some (.ok (.bl true) ρ1)
  | .bl false => g ρ1
  | _ => none
theorem finT2 {k : Bool → Env → Option R} {Q Q1 : Bool → Hp → Prop} (fin : FinT Γ cs ts W σ H G Q (eBind r fun d ρ1 => match d with
  | .bl b => k b ρ1
  | _ => none))
    (hk : ∀ b ρ1 H1 G1, Rep Γ cs σ H1 G1 ρ1 → Stp (T ts σ) H G H1 G1 → FinT Γ cs ts W σ H G Q (k b ρ1) → Q1 b H1) : FinT Γ cs ts W σ H G Q1 r := by
  rcases r with _ | ⟨d, ρ'⟩ | ⟨x, ρ'⟩
  · exact fin
  · cases d with
    | bl b => exact fun H' G' rep st => hk b ρ' H' G' rep st fin
    | _ => exact (show False from fin).elim
  · exact fin
theorem mt_not (hf : PT X a (tT Γ cs ts W f)) : PT X (.UnaryOp .Not a pos) (tT Γ cs ts W (eNot f)) :=
  PT.imp (pt_not hf) fun σ H Q ⟨G, ρ, rep, fin⟩ => ⟨G, ρ, rep, finT2 (k := fun b ρ1 => some (.ok (.bl (!b)) ρ1)) fin fun b ρ1 H1 G1 rep1 st1 fin1 => fin1 H1 G1 rep1 st1⟩
variable {rest : List Expr}
theorem mw_or1 (hf : PT X a (tT Γ cs ts W f)) : PW X (.BoolOp .Or [a] pos) (tT Γ cs ts W f) := pw_or1 hf
theorem mw_or (hf : PT X a (tT Γ cs ts W f)) (hg : PW X (.BoolOp .Or (b :: rest) pos) (tT Γ cs ts W g)) : PW X (.BoolOp .Or (a :: b :: rest) pos) (tT Γ cs ts W (eOr f g)) :=
  PW.imp (pw_or hf hg) fun σ H Q ⟨G, ρ, rep, fin⟩ => by
    unfold eOr at fin
    rw [bool_split] at fin
    refine ⟨G, ρ, rep, finT2 (k := fun b ρ1 => if b = true then some (.ok (.bl true) ρ1) else g ρ1) fin fun b ρ1 H1 G1 rep1 st1 fin1 => ?_⟩
    cases b with
    | true => rw [if_pos rfl] at fin1 ⊢; exact fin1 H1 G1 rep1 st1
    | false => rw [if_neg Bool.false_ne_true] at fin1 ⊢; exact ⟨G1, ρ1, rep1, fin1.step st1⟩
/-! ### and, or, not as values -/
theorem fin_bl {k : Bool → Env → Option R} {Q1 : VK} (fin : Fin Γ cs ts W m σ H G Q (eBind r fun d ρ1 => match d with
  | .bl b => k b ρ1
  | _ => none))
    (hk : ∀ b ρ1 H1 G1, Rep Γ cs σ H1 G1 ρ1 → Stp (T ts σ) H G H1 G1 → Fin Γ cs ts W m σ H G Q (k b ρ1) → Q1 (.bl b) H1) : Fin Γ cs ts W .full σ H G Q1 r := by
  rcases r with _ | ⟨d, ρ'⟩ | ⟨x, ρ'⟩
  · exact fin
  · cases d with
    | bl b =>
      intro v H' G' rep st rm
      cases (show Dt Γ G' v (.bl b) from rm)
      exact hk b ρ' H' G' rep st fin
    | _ => exact (show False from fin).elim
  · exact fin
theorem me_one {o : BoolOp} (hf : PE X a (tE Γ cs ts W .full f)) : PE X (.BoolOp o [a] pos) (tE Γ cs ts W .full f) := pe_one hf
theorem me_and (hf : PE X a (tE Γ cs ts W .full f)) (hg : PE X (.BoolOp .And (b :: rest) pos) (tE Γ cs ts W .full g)) : PE X (.BoolOp .And (a :: b :: rest) pos) (tE Γ cs ts W .full (eAnd f g)) :=
  PE.imp (pe_and hf hg) fun σ H Q ⟨G, ρ, rep, fin⟩ => by
    unfold eAnd at fin
    rw [bool_split] at fin
    refine ⟨G, ρ, rep, fin_bl (k := fun b ρ1 => if b = true then g ρ1 else some (.ok (.bl false) ρ1)) fin fun b ρ1 H1 G1 rep1 st1 fin1 => ⟨b, rfl, ?_⟩⟩
    cases b with
    | true => rw [if_pos rfl] at fin1 ⊢; exact ⟨G1, ρ1, rep1, fin1.step st1⟩
    | false => rw [if_neg Bool.false_ne_true] at fin1 ⊢; exact fin1 _ H1 G1 rep1 st1 (.bl _)
end
end
end Mi

set_option Elab.async false
set_option linter.all false
set_option maxRecDepth 100000
set_option maxHeartbeats 4000000
namespace Mi
open PySem PySem.Spec PyProof.Rows L2
/-! ### statements -/
/-- fx: the cells that came as arguments; lc: the cells at the head of the loop; xc: those where exceptions land; rm: what is handed back -/
structure Sx where
  fx : List Nat
  lc : List Nat
  xc : List Nat
  rm : Md
  W : WX
/-- of a def's body: what it hands on, what it lets out -/
def fxOf (cs : List Nat) (rm : Md) (E : XK) : Sx := ⟨cs, [], cs, rm, fun c d _ H => E c d H⟩
inductive Out | nx (ρ : Env) | rt (d : D) (ρ : Env) | bk (ρ : Env) | ct (ρ : Env) | ex (x : D) (ρ : Env)
abbrev SM := Env → Option Out
structure StS (fx cs cs' : List Nat) (σ : L2.St) (H G : Hp) (σ' : L2.St) (H' G' : Hp) : Prop where
  st : Stp (T cs σ) H G H' G'
  new : ∀ a, T cs' σ' a → T cs σ a ∨ H a = none
  fix : ∀ i ∈ fx, σ'[i]? = σ[i]?
theorem StS.trans {fx cs c1 c2 : List Nat} {σ σ1 σ2 : L2.St} {H G H1 G1 H2 G2 : Hp} (a : StS fx cs c1 σ H G σ1 H1 G1) (b : StS fx c1 c2 σ1 H1 G1 σ2 H2 G2) : StS fx cs c2 σ H G σ2 H2 G2 where
  st := a.st.trans b.st a.new
  new := fun x h => (b.new x h).elim (a.new x) fun z => .inr (by
    cases e : H x with
    | none => rfl
    | some u => exact absurd z (a.st.t x (by rw [e]; intro q; cases q)))
  fix := fun i hi => (b.fix i hi).trans (a.fix i hi)
theorem StS.of {fx cs : List Nat} {σ : L2.St} {H G H' G' : Hp} (s : Stp (T cs σ) H G H' G') : StS fx cs cs σ H G σ H' G' := ⟨s, fun _ h => .inl h, fun _ _ => rfl⟩
theorem StS.refl {fx cs : List Nat} {σ : L2.St} {H G : Hp} : StS fx cs cs σ H G σ H G := .of Stp.refl
/-- giving cells up, as a step -/
theorem Rep.frz {Γ : Ga} {fx cs cs' : List Nat} {σ : L2.St} {H G : Hp} {ρ : Env} (r : Rep Γ cs σ H G ρ) (hs : ∀ i ∈ cs', i ∈ cs) : ∃ G', Rep Γ cs' σ H G' ρ ∧ Same G G' ∧ StS fx cs cs' σ H G σ H G' := by
  obtain ⟨G', r', s, n⟩ := r.freeze hs
  exact ⟨G', r', s, ⟨s, fun _ _ h _ => h, fun _ h => h, fun a h _ nt => n a h nt⟩, fun a ⟨i, hi, e⟩ => .inl ⟨i, hs i hi, e⟩, fun _ _ => rfl⟩
def FinS (Γ : Ga) (S : Sx) (cs cs' : List Nat) (D : Ends) (σ : L2.St) (H G : Hp) : Option Out → Prop
  | none => False
  | some (.nx ρ') => ∀ σ' H' G', Rep Γ cs' σ' H' G' ρ' → StS S.fx cs cs' σ H G σ' H' G' → D.nx σ' H'
  | some (.bk ρ') => ∀ σ' H' G', Rep Γ S.lc σ' H' G' ρ' → StS S.fx cs S.lc σ H G σ' H' G' → D.bk σ' H'
  | some (.ct ρ') => ∀ σ' H' G', Rep Γ S.lc σ' H' G' ρ' → StS S.fx cs S.lc σ H G σ' H' G' → D.ct σ' H'
  | some (.rt d ρ') => ∀ v σ' H' G', Rep Γ S.fx σ' H' G' ρ' → StS S.fx cs S.fx σ H G σ' H' G' → RM Γ S.rm H H' G' v d → D.rt v H'
  | some (.ex x ρ') => ∀ c dx σ' H' G', Rep Γ S.xc σ' H' G' ρ' → StS S.fx cs S.xc σ H G σ' H' G' → Dx Γ H' G' c dx x → S.W c dx σ' H'
def tS (Γ : Ga) (S : Sx) (cs cs' : List Nat) (F : SM) : TS := fun D σ H => ∃ G ρ, Rep Γ cs σ H G ρ ∧ FinS Γ S cs cs' D σ H G (F ρ)
def sBind (r : Option R) (k : D → Env → Option Out) : Option Out := match r with
  | none => none
  | some (.ok d ρ) => k d ρ
  | some (.ex x ρ) => some (.ex x ρ)
@[simp] theorem sBind_ok {d : D} {ρ : Env} {k : D → Env → Option Out} : sBind (some (.ok d ρ)) k = k d ρ := rfl
@[simp] theorem sBind_ex {d : D} {ρ : Env} {k : D → Env → Option Out} : sBind (some (.ex d ρ)) k = some (.ex d ρ) := rfl
@[simp] theorem sBind_none {k : D → Env → Option Out} : sBind none k = none := rfl
theorem Dx.same {Γ : Ga} {H G G' : Hp} {c : Value} {dx : Option Addr} {x : D} (h : Dx Γ H G c dx x) (s : Same G G') : Dx Γ H G' c dx x := by
  obtain ⟨n, fs, h1, h2, h3⟩ := h
  refine ⟨n, fs, h1, h2, h3.imp (fun h => h) fun ⟨a, gs, q1, q2, qn, q3⟩ => ⟨a, gs, q1, s _ _ q2, qn, q3.same s⟩⟩
theorem RM.frz {Γ : Ga} {m : Md} (hm : m ≠ .root) {H0 H G G' : Hp} {v : V} {d : D} {T0 : Addr → Prop} (h : RM Γ m H0 H G v d) (s : Same G G') (n : ∀ a, G a = none → ¬ T0 a → G' a = none) (hT : ∀ a, H0 a = none → ¬ T0 a) : RM Γ m H0 H G' v d := by
  cases m with
  | full => exact Dt.same s h
  | root => exact absurd rfl hm
  | own =>
    obtain ⟨a, o, h1, h2, h3, h4, h5⟩ := h
    exact ⟨a, o, h1, h2, h3, n a h4 (hT a h2), h5.same s⟩
section
variable {Γ : Ga} {S : Sx} {cs c1 cs' : List Nat} {m : Md} {σ σ1 : L2.St} {H G H1 G1 : Hp} {ρ : Env} {D0 : Ends} {Q1 : VK} {f g : E} {r : Option R} {q : Option Out}
theorem FinS.step (h : FinS Γ S cs cs' D0 σ H G q) (s : StS S.fx cs c1 σ H G σ1 H1 G1) : FinS Γ S c1 cs' D0 σ1 H1 G1 q := by
  rcases q with _ | ⟨ρ'⟩ | ⟨d, ρ'⟩ | ⟨ρ'⟩ | ⟨ρ'⟩ | ⟨x, ρ'⟩
  · exact h
  · exact fun σ' H' G' rep st => h σ' H' G' rep (s.trans st)
  · exact fun v σ' H' G' rep st rm => h v σ' H' G' rep (s.trans st) (rm.back s.st.t)
  · exact fun σ' H' G' rep st => h σ' H' G' rep (s.trans st)
  · exact fun σ' H' G' rep st => h σ' H' G' rep (s.trans st)
  · exact fun c dx σ' H' G' rep st e => h c dx σ' H' G' rep (s.trans st) e
theorem finS_bind {k : D → Env → Option Out} (hx : ∀ i ∈ S.xc, i ∈ cs) (fin : FinS Γ S cs cs' D0 σ H G (sBind r k))
    (hk : ∀ v d ρ1 H1 G1, Rep Γ cs σ H1 G1 ρ1 → Stp (T cs σ) H G H1 G1 → RM Γ m H H1 G1 v d → FinS Γ S cs cs' D0 σ H G (k d ρ1) → Q1 v H1) : Fin Γ cs cs S.W m σ H G Q1 r := by
  rcases r with _ | ⟨d, ρ'⟩ | ⟨x, ρ'⟩
  · exact fin
  · exact fun v H' G' rep st rm => hk v d ρ' H' G' rep st rm fin
  · intro c dx H' G' rep st e
    obtain ⟨G2, rep2, s2, st2⟩ := rep.frz (fx := S.fx) hx
    exact fin c dx σ H' G2 rep2 ((StS.of st).trans st2) (e.same s2)
theorem finST {k : Bool → Env → Option Out} {Q1 : Bool → Hp → Prop} (hx : ∀ i ∈ S.xc, i ∈ cs) (fin : FinS Γ S cs cs' D0 σ H G (sBind r fun d ρ1 => match d with
  | .bl b => k b ρ1
  | _ => none))
    (hk : ∀ b ρ1 H1 G1, Rep Γ cs σ H1 G1 ρ1 → Stp (T cs σ) H G H1 G1 → FinS Γ S cs cs' D0 σ H G (k b ρ1) → Q1 b H1) : FinT Γ cs cs S.W σ H G Q1 r := by
  rcases r with _ | ⟨d, ρ'⟩ | ⟨x, ρ'⟩
  · exact fin
  · cases d with
    | bl b => exact fun H' G' rep st => hk b ρ' H' G' rep st fin
    | _ => exact (show False from fin).elim
  · intro c dx H' G' rep st e
    obtain ⟨G2, rep2, s2, st2⟩ := rep.frz (fx := S.fx) hx
    exact fin c dx σ H' G2 rep2 ((StS.of st).trans st2) (e.same s2)
/-! ### blocks -/
def sNext : SM := fun ρ => some (.nx ρ)
def sSeq (F K : SM) : SM := fun ρ => match F ρ with
  | some (.nx ρ1) => K ρ1
  | r => r
variable {X : Cx} {st : Stmt} {rest : List Stmt} {F K : SM} {pos : Pos} {e : Expr}
theorem mss_nil : PSs X [] (tS Γ S cs cs sNext) := PSs.imp pss_nil fun D σ H ⟨G, ρ, rep, fin⟩ => fin σ H G rep StS.refl
theorem mss_one (h : PS X st (tS Γ S cs cs' F)) : PSs X [st] (tS Γ S cs cs' F) := pss_one h
theorem mss_cons (h1 : PS X st (tS Γ S cs c1 F)) (h2 : PSs X rest (tS Γ S c1 cs' K)) : PSs X (st :: rest) (tS Γ S cs cs' (sSeq F K)) :=
  PSs.imp (pss_cons h1 h2) fun D σ H ⟨G, ρ, rep, fin⟩ => by
    refine ⟨G, ρ, rep, ?_⟩
    unfold sSeq at fin
    generalize F ρ = q at fin ⊢
    rcases q with _ | ⟨ρ'⟩ | ⟨d, ρ'⟩ | ⟨ρ'⟩ | ⟨ρ'⟩ | ⟨x, ρ'⟩
    · exact fin
    · exact fun σ' H' G' rep' st' => ⟨G', ρ', rep', FinS.step fin st'⟩
    · exact fin
    · exact fin
    · exact fin
    · exact fin
/-- a block that never comes to its end -/
def NoNx (K : SM) : Prop := ∀ ρ ρ', K ρ ≠ some (.nx ρ')
/-! ### small statements -/
def sPass : SM := sNext
def sBrk : SM := fun ρ => some (.bk ρ)
def sCt : SM := fun ρ => some (.ct ρ)
def sExpr (f : E) : SM := fun ρ => sBind (f ρ) fun _ ρ1 => some (.nx ρ1)
def sRet (f : E) : SM := fun ρ => sBind (f ρ) fun d ρ1 => some (.rt d ρ1)
theorem ms_ret (he : PE X e (tE Γ cs cs S.W S.rm f)) (hx : ∀ i ∈ S.xc, i ∈ cs := by first | decide | (dsimp only [fxOf]; decide)) (hf : ∀ i ∈ S.fx, i ∈ cs := by first | decide | (dsimp only [fxOf]; decide)) (hm : S.rm ≠ .root := by first | decide | (dsimp only [fxOf]; decide)) : PS X (.Return (some e) pos) (tS Γ S cs cs' (sRet f)) :=
  PS.imp (ps_ret he) fun D σ H ⟨G, ρ, rep, fin⟩ => ⟨G, ρ, rep, finS_bind hx fin fun v d ρ1 H1 G1 rep1 st1 rm fin1 => by
    obtain ⟨G2, rep2, s2, n2⟩ := rep1.freeze hf
    have st2 : StS S.fx cs S.fx σ H1 G1 σ H1 G2 := ⟨⟨s2, fun _ _ h _ => h, fun _ h => h, fun a h _ nt => n2 a h nt⟩, fun a ⟨i, hi, q⟩ => .inl ⟨i, hf i hi, q⟩, fun _ _ => rfl⟩
    exact fin1 v σ H1 G2 rep2 ((StS.of st1).trans st2) (rm.frz hm s2 n2 fun a h => rep.Tn h)⟩
def sRetN : SM := fun ρ => some (.rt .non ρ)
def sIf (t : E) (F K : SM) : SM := fun ρ => sBind (t ρ) fun d ρ1 => match d with
  | .bl true => F ρ1
  | .bl false => K ρ1
  | _ => none
theorem bool_splitS {k1 k2 : Env → Option Out} : (fun (d : D) (ρ1 : Env) => match d with
    | .bl true => k1 ρ1
    | .bl false => k2 ρ1
    | _ => none) = fun d ρ1 => match d with
    | .bl b => (fun b ρ1 => if b = true then k1 ρ1 else k2 ρ1) b ρ1
    | _ => none := by
  funext d ρ1
  cases d with
  | bl b => cases b <;> rfl
  | _ => rfl
theorem ms_if {c : Expr} {a b : List Stmt} {t : E} (hc : PT X c (tT Γ cs cs S.W t)) (ha : PSs X a (tS Γ S cs cs' F)) (hb : PSs X b (tS Γ S cs cs' K)) (hx : ∀ i ∈ S.xc, i ∈ cs := by first | decide | (dsimp only [fxOf]; decide)) : PS X (.If c a b pos) (tS Γ S cs cs' (sIf t F K)) :=
  PS.imp (ps_if hc ha hb) fun D σ H ⟨G, ρ, rep, fin⟩ => by
    unfold sIf at fin
    rw [bool_splitS] at fin
    refine ⟨G, ρ, rep, finST (k := fun b ρ1 => if b = true then F ρ1 else K ρ1) hx fin fun b ρ1 H1 G1 rep1 st1 fin1 => ?_⟩
    cases b with
    | true => rw [if_pos rfl] at fin1 ⊢; exact ⟨G1, ρ1, rep1, fin1.step (.of st1)⟩
    | false => rw [if_neg Bool.false_ne_true] at fin1 ⊢; exact ⟨G1, ρ1, rep1, fin1.step (.of st1)⟩
/-! ### stores -/
theorem ne_mem {l : List Nat} {i j : Nat} (hi : i ∉ l) (hj : j ∈ l) : i ≠ j := fun z => hi (z ▸ hj)
theorem T.set {i : Nat} (hi : i ∉ cs) {v : V} {a : Addr} : T cs (σ.set i (some v)) a ↔ T cs σ a := by
  constructor
  · rintro ⟨j, hj, h⟩
    rw [List.getElem?_set_ne (ne_mem hi hj)] at h
    exact ⟨j, hj, h⟩
  · rintro ⟨j, hj, h⟩
    refine ⟨j, hj, ?_⟩
    rw [List.getElem?_set_ne (ne_mem hi hj)]
    exact h
theorem Rep.set (rep : Rep Γ cs σ H G ρ) {i : Nat} (hi : i ∉ cs) {v : V} {d : D} (h : Dt Γ G v d) : Rep Γ cs (σ.set i (some v)) H G (ρ.set i (some d)) := by
  have hl := rep.len
  refine ⟨by rw [List.length_set, List.length_set]; exact hl, rep.sub, fun j q => ?_, fun j d' hj q => ?_, fun j d' hj q => ?_, fun j k a hj hk q1 q2 => ?_⟩
  · by_cases e : i = j
    · subst e
      by_cases hlt : i < ρ.length
      · rw [List.getElem?_set_self hlt] at q; cases q
      · rw [List.getElem?_eq_none (by rw [List.length_set]; omega)] at q; cases q
    · rw [List.getElem?_set_ne e] at q ⊢
      exact rep.un j q
  · by_cases e : i = j
    · subst e
      have hlt : i < ρ.length := by have := (List.getElem?_eq_some_iff.mp q).1; rw [List.length_set] at this; exact this
      rw [List.getElem?_set_self hlt] at q
      cases q
      exact ⟨v, List.getElem?_set_self (by omega), h⟩
    · rw [List.getElem?_set_ne e] at q ⊢
      exact rep.dat j d' hj q
  · have e : i ≠ j := ne_mem hi hj
    rw [List.getElem?_set_ne e] at q ⊢
    exact rep.own j d' hj q
  · rw [List.getElem?_set_ne (ne_mem hi hj)] at q1
    rw [List.getElem?_set_ne (ne_mem hi hk)] at q2
    exact rep.sep j k a hj hk q1 q2
theorem StS.set {fx : List Nat} {i : Nat} (hi : i ∉ cs) (hf : i ∉ fx) {v : V} (s : Stp (T cs σ) H G H1 G1) : StS fx cs cs σ H G (σ.set i (some v)) H1 G1 :=
  ⟨s, fun a h => .inl ((T.set hi).mp h), fun j hj => List.getElem?_set_ne (ne_mem hf hj)⟩
def sSet (i : Nat) (f : E) : SM := fun ρ => sBind (f ρ) fun d ρ1 => some (.nx (ρ1.set i (some d)))
theorem ms_set0 {i : Nat} {te : TE} (h : PS X st (tAsg te (gName i))) (he : ∀ σ H Q, tE Γ cs cs S.W .full f σ H Q → te σ H Q) (hi : i ∉ cs) (hf : i ∉ S.fx) (hx : ∀ i ∈ S.xc, i ∈ cs) : PS X st (tS Γ S cs cs (sSet i f)) :=
  PS.imp h fun D σ H ⟨G, ρ, rep, fin⟩ => he σ H _ ⟨G, ρ, rep, finS_bind hx fin fun v d ρ1 H1 G1 rep1 st1 rm fin1 => fin1 _ H1 G1 (rep1.set hi rm) (.set hi hf st1)⟩
theorem ms_set {i : Nat} {x : Str} {pos' : Pos} (hN : X.N.Nodup) (hn : X.N[i]? = some x) (hl : Loc X.env.scope x) (he : PE X e (tE Γ cs cs S.W .full f)) (hi : i ∉ cs := by first | decide | (dsimp only [fxOf]; decide)) (hf : i ∉ S.fx := by first | decide | (dsimp only [fxOf]; decide)) (hx : ∀ i ∈ S.xc, i ∈ cs := by first | decide | (dsimp only [fxOf]; decide))
    (hs : swapsWith e (some (.Name x pos')) pos.line X.env = pure false := by rfl) (hfn : X.fn x = true ∨ X.env.scope.names.lookup x = some .local := by first | exact .inl rfl | exact .inr rfl | assumption) :
    PS X (.Assign [.Name x pos'] e pos) (tS Γ S cs cs (sSet i f)) := ms_set0 (ps_set hN hn hl he hs hfn) (fun _ _ _ h => h) hi hf hx
/-- a new cell -/
theorem Rep.setOwn (rep0 : Rep Γ cs σ H G ρ) {ρ1 : Env} (rep : Rep Γ cs σ H1 G1 ρ1) {i : Nat} (h1 : i ∈ cs') (h2 : ∀ j ∈ cs, j ∈ cs') (h3 : ∀ j ∈ cs', j = i ∨ j ∈ cs) {a : Addr} {o : HO} {d : D} (n0 : H a = none) (e1 : H1 a = some o) (n1 : G1 a = none) (ow : OwnO Γ G1 o d) :
    Rep Γ cs' (σ.set i (some (.ref a))) H1 G1 (ρ1.set i (some d)) := by
  have hl := rep.len
  have nT : ∀ j, j ∈ cs → σ[j]? ≠ some (some (.ref a)) := fun j hj z => (rep0.tc ⟨j, hj, z⟩).1 n0
  refine ⟨by rw [List.length_set, List.length_set]; exact hl, rep.sub, fun j q => ?_, fun j d' hj q => ?_, fun j d' hj q => ?_, fun j k b hj hk q1 q2 => ?_⟩
  · by_cases e : i = j
    · subst e
      by_cases hlt : i < ρ1.length
      · rw [List.getElem?_set_self hlt] at q; cases q
      · rw [List.getElem?_eq_none (by rw [List.length_set]; omega)] at q; cases q
    · rw [List.getElem?_set_ne e] at q ⊢
      exact rep.un j q
  · have e : i ≠ j := fun z => hj (z ▸ h1)
    rw [List.getElem?_set_ne e] at q ⊢
    exact rep.dat j d' (fun z => hj (h2 j z)) q
  · by_cases e : i = j
    · subst e
      have hlt : i < ρ1.length := by have := (List.getElem?_eq_some_iff.mp q).1; rw [List.length_set] at this; exact this
      rw [List.getElem?_set_self hlt] at q
      cases q
      exact ⟨a, o, List.getElem?_set_self (by omega), e1, n1, ow⟩
    · rw [List.getElem?_set_ne e] at q ⊢
      exact rep.own j d' ((h3 j hj).elim (fun z => absurd z.symm e) id) q
  · by_cases e : i = j
    · subst e
      by_cases e2 : i = k
      · exact e2
      · have hlt : i < σ.length := by have := (List.getElem?_eq_some_iff.mp q1).1; rw [List.length_set] at this; exact this
        rw [List.getElem?_set_self hlt] at q1
        rw [List.getElem?_set_ne e2] at q2
        cases q1
        exact absurd q2 (nT k ((h3 k hk).elim (fun z => absurd z.symm e2) id))
    · rw [List.getElem?_set_ne e] at q1
      by_cases e2 : i = k
      · subst e2
        have hlt : i < σ.length := by have := (List.getElem?_eq_some_iff.mp q2).1; rw [List.length_set] at this; exact this
        rw [List.getElem?_set_self hlt] at q2
        cases q2
        exact absurd q1 (nT j ((h3 j hj).elim (fun z => absurd z.symm e) id))
      · rw [List.getElem?_set_ne e2] at q2
        exact rep.sep j k b ((h3 j hj).elim (fun z => absurd z.symm e) id) ((h3 k hk).elim (fun z => absurd z.symm e2) id) q1 q2
theorem StS.setOwn {fx : List Nat} {i : Nat} (hf : i ∉ fx) (h3 : ∀ j ∈ cs', j = i ∨ j ∈ cs) {a : Addr} (n0 : H a = none) (s : Stp (T cs σ) H G H1 G1) : StS fx cs cs' σ H G (σ.set i (some (.ref a))) H1 G1 := by
  refine ⟨s, fun b ⟨j, hj, h⟩ => ?_, fun j hj => List.getElem?_set_ne (ne_mem hf hj)⟩
  by_cases e : i = j
  · subst e
    have hlt : i < σ.length := by have := (List.getElem?_eq_some_iff.mp h).1; rw [List.length_set] at this; exact this
    rw [List.getElem?_set_self hlt] at h
    cases h
    exact .inr n0
  · rw [List.getElem?_set_ne e] at h
    exact .inl ⟨j, (h3 j hj).elim (fun z => absurd z.symm e) id, h⟩
theorem ms_own0 {i : Nat} {te : TE} (h : PS X st (tAsg te (gName i))) (he : ∀ σ H Q, tE Γ cs cs S.W .own f σ H Q → te σ H Q) (h1 : i ∈ cs') (h2 : ∀ j ∈ cs, j ∈ cs') (h3 : ∀ j ∈ cs', j = i ∨ j ∈ cs) (hf : i ∉ S.fx) (hx : ∀ i ∈ S.xc, i ∈ cs) :
    PS X st (tS Γ S cs cs' (sSet i f)) :=
  PS.imp h fun D σ H ⟨G, ρ, rep, fin⟩ => he σ H _ ⟨G, ρ, rep, finS_bind hx fin fun v d ρ1 H1 G1 rep1 st1 rm fin1 => by
    obtain ⟨a, o, rfl, n0, e1, n1, ow⟩ := rm
    exact fin1 _ H1 G1 (rep.setOwn rep1 h1 h2 h3 n0 e1 n1 ow) (.setOwn hf h3 n0 st1)⟩
theorem ms_own {i : Nat} {x : Str} {pos' : Pos} (hN : X.N.Nodup) (hn : X.N[i]? = some x) (hl : Loc X.env.scope x) (he : PE X e (tE Γ cs cs S.W .own f)) (h1 : i ∈ cs' := by first | decide | (dsimp only [fxOf]; decide)) (h2 : ∀ j ∈ cs, j ∈ cs' := by first | decide | (dsimp only [fxOf]; decide)) (h3 : ∀ j ∈ cs', j = i ∨ j ∈ cs := by first | decide | (dsimp only [fxOf]; decide))
    (hf : i ∉ S.fx := by first | decide | (dsimp only [fxOf]; decide)) (hx : ∀ i ∈ S.xc, i ∈ cs := by first | decide | (dsimp only [fxOf]; decide)) (hs : swapsWith e (some (.Name x pos')) pos.line X.env = pure false := by rfl) (hfn : X.fn x = true ∨ X.env.scope.names.lookup x = some .local := by first | exact .inl rfl | exact .inr rfl | assumption) :
    PS X (.Assign [.Name x pos'] e pos) (tS Γ S cs cs' (sSet i f)) := ms_own0 (ps_set hN hn hl he hs hfn) (fun _ _ _ h => h) h1 h2 h3 hf hx
/-- name op= e -/
def sAug (i : Nat) (op : D → D → Option D) (f : E) : SM := fun ρ => sBind (eBind (eV i ρ) fun a ρ1 => eBind (f ρ1) fun b ρ2 => lift (op a b) ρ2) fun d ρ1 => some (.nx (ρ1.set i (some d)))
def addI : D → D → Option D
  | .int a, .int b => some (.int (a + b))
  | _, _ => none
def subI : D → D → Option D
  | .int a, .int b => some (.int (a - b))
  | _, _ => none
theorem dt_int {v : V} {i : Int} (h : Dt Γ G v (.int i)) : v = .int i := by cases h; rfl
/-! ### targets -/
inductive Tg | nm (i : Nat) | tp (ts : List Tg)
mutual
def tgtD : Tg → D → Env → Option Env
  | .nm i, d, ρ => some (ρ.set i (some d))
  | .tp ts, .tup ds, ρ => tgtsD ts ds ρ
  | .tp _, _, _ => none
def tgtsD : List Tg → List D → Env → Option Env
  | [], [], ρ => some ρ
  | t :: ts, d :: ds, ρ => (tgtD t d ρ).bind fun ρ1 => tgtsD ts ds ρ1
  | _, _, _ => none
end
mutual
def Tg.sl : Tg → List Nat
  | .nm i => [i]
  | .tp ts => Tg.sls ts
def Tg.sls : List Tg → List Nat
  | [] => []
  | t :: ts => Tg.sl t ++ Tg.sls ts
end
/-- what a store to names leaves -/
def Stored (Γ : Ga) (fx cs : List Nat) (sl : List Nat) (σ : L2.St) (H G : Hp) (ρ' : Env) (σ' : L2.St) : Prop := Rep Γ cs σ' H G ρ' ∧ (∀ a, T cs σ' a → T cs σ a) ∧ (∀ i ∈ fx, σ'[i]? = σ[i]?) ∧ ∀ i, i ∉ sl → σ'[i]? = σ[i]?
def tG (Γ : Ga) (fx cs : List Nat) (t : Tg) : TG := fun v σ H Q => ∃ G d ρ ρ', Rep Γ cs σ H G ρ ∧ Dt Γ G v d ∧ tgtD t d ρ = some ρ' ∧ ∀ σ', Stored Γ fx cs t.sl σ H G ρ' σ' → Q σ' H
def tGs (Γ : Ga) (fx cs : List Nat) (ts : List Tg) : TGs := fun vs σ H Q => ∃ G ds ρ ρ', Rep Γ cs σ H G ρ ∧ Dts Γ G vs ds ∧ tgtsD ts ds ρ = some ρ' ∧ ∀ σ', Stored Γ fx cs (Tg.sls ts) σ H G ρ' σ' → Q σ' H
theorem PG.imp {e : Expr} {t t' : TG} (h : PG X e t) (k : ∀ v σ H Q, t' v σ H Q → t v σ H Q) : PG X e t' := ⟨fun pins s σ H v u Q I r hw => h.run pins s σ H v u Q I r (k v σ H Q hw)⟩
theorem PGs.imp {e : List Expr} {t t' : TGs} (h : PGs X e t) (k : ∀ v σ H Q, t' v σ H Q → t v σ H Q) : PGs X e t' := ⟨fun pins s σ H v u Q I r hw => h.run pins s σ H v u Q I r (k v σ H Q hw)⟩
variable {fx : List Nat}
theorem tg_nm {i : Nat} (hi : i ∉ cs) (hf : i ∉ fx) : ∀ v σ H Q, tG Γ fx cs (.nm i) v σ H Q → gName i v σ H Q := fun v σ H Q ⟨G, d, ρ, ρ', rep, h, e, q⟩ => by
  unfold tgtD at e
  cases e
  exact q _ ⟨rep.set hi h, fun a z => (T.set hi).mp z, fun j hj => List.getElem?_set_ne (ne_mem hf hj), fun j hj => List.getElem?_set_ne fun z => hj (by rw [z]; exact List.mem_singleton.mpr rfl)⟩
theorem mg_nm {e : Expr} {i : Nat} (h : PG X e (gName i)) (hi : i ∉ cs := by first | decide | (dsimp only [fxOf]; decide)) (hf : i ∉ fx := by first | decide | (dsimp only [fxOf]; decide)) : PG X e (tG Γ fx cs (.nm i)) := PG.imp h (tg_nm hi hf)
theorem tg_nil : ∀ v σ H Q, tGs Γ fx cs [] v σ H Q → gNil v σ H Q := fun v σ H Q ⟨G, ds, ρ, ρ', rep, h, e, q⟩ => by
  cases h with
  | nil =>
    unfold tgtsD at e
    cases e
    exact ⟨rfl, q _ ⟨rep, fun _ h => h, fun _ _ => rfl, fun _ _ => rfl⟩⟩
  | cons => cases e
theorem tg_cons {g : TG} {gs : TGs} {t : Tg} {ts : List Tg} (hg : ∀ v σ H Q, tG Γ fx cs t v σ H Q → g v σ H Q) (hgs : ∀ v σ H Q, tGs Γ fx cs ts v σ H Q → gs v σ H Q) : ∀ v σ H Q, tGs Γ fx cs (t :: ts) v σ H Q → gCons g gs v σ H Q :=
  fun v σ H Q ⟨G, ds, ρ, ρ', rep, h, e, q⟩ => by
    cases h with
    | nil => cases e
    | cons h r =>
      unfold tgtsD at e
      obtain ⟨ρ1, e1, e2⟩ := Option.bind_eq_some_iff.mp e
      refine ⟨_, _, rfl, hg _ _ _ _ ⟨G, _, ρ, ρ1, rep, h, e1, fun σ1 ⟨r1, t1, f1, o1⟩ => hgs _ _ _ _ ⟨G, _, ρ1, ρ', r1, r, e2, fun σ2 ⟨r2, t2, f2, o2⟩ => q σ2 ⟨r2, fun a z => t1 a (t2 a z), fun i hi => (f2 i hi).trans (f1 i hi), fun i hi => (o2 i fun z => hi (List.mem_append_right _ z)).trans (o1 i fun z => hi (List.mem_append_left _ z))⟩⟩⟩⟩
theorem tgts_len : ∀ {ts : List Tg} {ds : List D} {ρ ρ' : Env}, tgtsD ts ds ρ = some ρ' → ds.length = ts.length
  | [], [], _, _, _ => rfl
  | [], _ :: _, _, _, h => by cases h
  | _ :: _, [], _, _, h => by cases h
  | t :: ts, d :: ds, ρ, ρ', h => by
    unfold tgtsD at h
    obtain ⟨ρ1, _, e2⟩ := Option.bind_eq_some_iff.mp h
    show ds.length + 1 = ts.length + 1
    rw [tgts_len e2]
theorem tg_tp {n : Nat} {gs : TGs} {ts : List Tg} {K : PySem.W.Frag} (hK : Γ.K = K) (hn : ts.length = n) (hgs : ∀ v σ H Q, tGs Γ fx cs ts v σ H Q → gs v σ H Q) : ∀ v σ H Q, tG Γ fx cs (.tp ts) v σ H Q → gTup K n gs v σ H Q :=
  fun v σ H Q ⟨G, d, ρ, ρ', rep, h, e, q⟩ => by
    cases h with
    | tup h r =>
      unfold tgtD at e
      subst hK
      exact ⟨_, _, rfl, SqT.of (rep.sub _ _ h), by rw [r.len, tgts_len e, hn], hgs _ _ _ _ ⟨G, _, ρ, ρ', rep, r, e, q⟩⟩
    | _ => unfold tgtD at e; cases e
theorem mgs_nil : PGs X [] (tGs Γ fx cs []) := PGs.imp pgs_nil tg_nil
theorem mgs_cons {e : Expr} {es : List Expr} {t : Tg} {ts : List Tg} (h1 : PG X e (tG Γ fx cs t)) (h2 : PGs X es (tGs Γ fx cs ts)) (hs : (assignEach (e :: es) X.env).map (·.2) = assign e X.env :: (assignEach es X.env).map (·.2) := by rfl) : PGs X (e :: es) (tGs Γ fx cs (t :: ts)) :=
  PGs.imp (pgs_cons h1 h2 hs) (tg_cons (fun _ _ _ _ h => h) (fun _ _ _ _ h => h))
theorem mg_tp {es : List Expr} {k : Nat} {ts : List Tg} {n : Nat} (hc : X.calm = true) (hK : Γ.K = X.K) (h : PGs X es (tGs Γ fx cs ts)) (hl : ts.length = n) (hn : (assignEach es X.env).length = n := by rfl) (hst : (assignEach es X.env).findIdx? (·.1) = none := by rfl) :
    PG X (.Tuple es k pos) (tG Γ fx cs (.tp ts)) := PG.imp (pg_tup hc h hn hst) (tg_tp hK hl (fun _ _ _ _ h => h))
def sAsg (t : Tg) (f : E) : SM := fun ρ => sBind (f ρ) fun d ρ1 => (tgtD t d ρ1).map .nx
theorem StS.stored {ρ' : Env} {σ' : L2.St} (s : Stp (T cs σ) H G H1 G1) {sl : List Nat} (q : Stored Γ fx cs sl σ H1 G1 ρ' σ') : StS fx cs cs σ H G σ' H1 G1 := ⟨s, fun a h => .inl (q.2.1 a h), q.2.2.1⟩
/-! ### loops -/
/-- J walks the items: all it leans on stands in G (and, where the items lie in a cell, at its root) -/
structure WalkD (Γ : Ga) (J : It) (items : List D) (G : Hp) (ro : Option (Addr × HO)) : Prop where
  ex : ∃ (Gp : Hp → Prop) (Y : Nat → Hp → V → Hp → Prop), Walk J items.length Gp Y ∧ (∀ H, Same G H → (∀ a o, ro = some (a, o) → H a = some o) → Gp H) ∧
    ∀ i H v H' d G1, items[i]? = some d → Same G G1 → Same G1 H → Y i H v H' → ∃ G2, Ext H G1 H' G2 ∧ Dt Γ G2 v d
def FinI (Γ : Ga) (cs ts : List Nat) (W : WX) (b : Bool) (σ : L2.St) (H G : Hp) (Rr : It → Hp → Prop) : Option R → Prop
  | some (.ok (.lst items) ρ') => ∀ J H' G' ro, (b = false → ro = none) → Rep Γ cs σ H' G' ρ' → Stp (T ts σ) H G H' G' → (∀ a o, ro = some (a, o) → H' a = some o) → WalkD Γ J items G' ro → Rr J H'
  | some (.ex x ρ') => ∀ c dx H' G', Rep Γ cs σ H' G' ρ' → Stp (T ts σ) H G H' G' → Dx Γ H' G' c dx x → W c dx σ H'
  | _ => False
/-- b: the items may lie in a cell -/
def tI (Γ : Ga) (cs ts : List Nat) (W : WX) (b : Bool) (f : E) : TI := fun σ H Rr => ∃ G ρ, Rep Γ cs σ H G ρ ∧ FinI Γ cs ts W b σ H G Rr (f ρ)
theorem PI.imp {tg e : Expr} {t t' : TI} (h : PI X tg e t) (k : ∀ σ H Q, t' σ H Q → t σ H Q) : PI X tg e t' := ⟨fun pins s σ H Q I hw => h.run pins s σ H Q I (k σ H Q hw)⟩
def loopF (t : Tg) (B : SM) : List D → SM
  | [], ρ => some (.nx ρ)
  | d :: ds, ρ => match tgtD t d ρ with
    | none => none
    | some ρ1 => match B ρ1 with
      | some (.nx ρ2) => loopF t B ds ρ2
      | some (.ct ρ2) => loopF t B ds ρ2
      | some (.bk ρ2) => some (.nx ρ2)
      | r => r
def sFor (t : Tg) (f : E) (B : SM) : SM := fun ρ => sBind (f ρ) fun d ρ1 => match d with
  | .lst items => loopF t B items ρ1
  | _ => none
abbrev Sx.loop (S : Sx) (cs : List Nat) : Sx := { S with lc := cs }
theorem finSI {k : List D → Env → Option Out} {Rr : It → Hp → Prop} (hx : ∀ i ∈ S.xc, i ∈ cs) (fin : FinS Γ S cs cs' D0 σ H G (sBind r fun d ρ1 => match d with
  | .lst items => k items ρ1
  | _ => none))
    (hk : ∀ items ρ1 J H1 G1, Rep Γ cs σ H1 G1 ρ1 → Stp (T cs σ) H G H1 G1 → WalkD Γ J items G1 none → FinS Γ S cs cs' D0 σ H G (k items ρ1) → Rr J H1) : FinI Γ cs cs S.W false σ H G Rr r := by
  rcases r with _ | ⟨d, ρ'⟩ | ⟨x, ρ'⟩
  · exact fin
  · cases d with
    | lst items =>
      intro J H' G' ro hro rep st _ w
      cases hro rfl
      exact hk items ρ' J H' G' rep st w fin
    | _ => exact (show False from fin).elim
  · intro c dx H' G' rep st e
    obtain ⟨G2, rep2, s2, st2⟩ := rep.frz (fx := S.fx) hx
    exact fin c dx σ H' G2 rep2 ((StS.of st).trans st2) (e.same s2)
theorem ms_for {iter tg : Expr} {body : List Stmt} {t : Tg} {B : SM} (hp : PassesOwn (model X.prog X.w) X.A X.env X.xe) (hc : X.calm = true) (hi : PI X tg iter (tI Γ cs cs S.W false f)) (hg : PG X tg (tG Γ S.fx cs t)) (hb : PSs X body (tS Γ (S.loop cs) cs cs B))
    (hx : ∀ i ∈ S.xc, i ∈ cs := by first | decide | (dsimp only [fxOf]; decide)) (hs : ∀ x, foldedSetIterable iter X.env x = pure x := by intro _; rfl) : PS X (.For tg iter body [] pos) (tS Γ S cs cs (sFor t f B)) :=
  PS.imp (ps_for hp hc hi hg hb hs) fun D0 σ H ⟨G, ρ, rep, fin⟩ => by
    refine ⟨G, ρ, rep, finSI (k := fun items ρ1 => loopF t B items ρ1) hx fin fun items ρ1 J H1 G1 rep1 st1 w fin1 => ?_⟩
    obtain ⟨Gp, Y, wk, wg, wy⟩ := w.ex
    refine for_it wk (fun i σ' H' => ∃ G' ρ', Rep Γ cs σ' H' G' ρ' ∧ Same G1 G' ∧ FinS Γ S cs cs D0 σ' H' G' (loopF t B (items.drop i) ρ')) ⟨G1, ρ1, rep1, Same.refl _, fin1.step (.of st1)⟩
      (fun i σ' H' _ ⟨G', ρ', rep', sm, _⟩ => wg H' (sm.trans rep'.sub) (fun _ _ z => nomatch z)) (fun i x σ' H' H2 hi ⟨G', ρ', rep', sm, fin'⟩ y => ?_) fun σ' H' ⟨G', ρ', rep', sm, fin'⟩ => ?_
    · have hd : items[i]? = some items[i] := List.getElem?_eq_getElem hi
      rw [List.drop_eq_getElem_cons hi] at fin'
      unfold loopF at fin'
      obtain ⟨G2, ex2, dt2⟩ := wy i H' x H2 items[i] G' hd sm rep'.sub y
      cases q : tgtD t items[i] ρ' with
      | none => rw [q] at fin'; exact fin'.elim
      | some ρ2 =>
        rw [q] at fin'
        have rep2 := rep'.ext ex2
        refine ⟨G2, _, ρ', ρ2, rep2, dt2, q, fun σ3 st3 => ⟨G2, ρ2, st3.1, ?_⟩⟩
        have s03 : StS S.fx cs cs σ' H' G' σ3 H2 G2 := .stored ex2.any st3
        have sm2 : Same G1 G2 := sm.trans ex2.st.g
        dsimp only at fin'
        generalize B ρ2 = b at fin' ⊢
        rcases b with _ | ⟨ρ4⟩ | ⟨d, ρ4⟩ | ⟨ρ4⟩ | ⟨ρ4⟩ | ⟨z, ρ4⟩
        · exact fin'
        · exact fun σ4 H4 G4 rep4 st4 => ⟨G4, ρ4, rep4, sm2.trans st4.st.g, FinS.step (show FinS Γ S cs cs D0 σ' H' G' (loopF t B (items.drop (i + 1)) ρ4) from fin') (s03.trans st4)⟩
        · exact fun v σ4 H4 G4 rep4 st4 rm => (show FinS Γ S cs cs D0 σ' H' G' (some (.rt d ρ4)) from fin') v σ4 H4 G4 rep4 (s03.trans st4) (rm.back s03.st.t)
        · exact fun σ4 H4 G4 rep4 st4 => (show FinS Γ S cs cs D0 σ' H' G' (some (.nx ρ4)) from fin') σ4 H4 G4 rep4 (s03.trans st4)
        · exact fun σ4 H4 G4 rep4 st4 => ⟨G4, ρ4, rep4, sm2.trans st4.st.g, FinS.step (show FinS Γ S cs cs D0 σ' H' G' (loopF t B (items.drop (i + 1)) ρ4) from fin') (s03.trans st4)⟩
        · exact fun c dx σ4 H4 G4 rep4 st4 e => (show FinS Γ S cs cs D0 σ' H' G' (some (.ex z ρ4)) from fin') c dx σ4 H4 G4 rep4 (s03.trans st4) e
    · rw [List.drop_length] at fin'
      exact fin' σ' H' G' rep' StS.refl
def whileF (t : E) (B : SM) : Nat → SM
  | 0, _ => none
  | n + 1, ρ => sBind (t ρ) fun d ρ1 => match d with
    | .bl true => (match B ρ1 with
      | some (.nx ρ2) => whileF t B n ρ2
      | some (.ct ρ2) => whileF t B n ρ2
      | some (.bk ρ2) => some (.nx ρ2)
      | r => r)
    | .bl false => some (.nx ρ1)
    | _ => none
open Classical in
/-- a while loop, however long -/
noncomputable def whileN (t : E) (B : SM) : SM := fun ρ => if h : ∃ n o, whileF t B n ρ = some o then whileF t B (Classical.choose h) ρ else none
theorem PS.ex {X : Cx} {st : Stmt} {P : Nat → TS} (h : ∀ n, PS X st (P n)) : PS X st fun D σ H => ∃ n, P n D σ H := ⟨fun pins s σ H D i ⟨n, z⟩ => (h n).run pins s σ H D i z⟩
end
end Mi

set_option Elab.async false
set_option linter.all false
set_option maxRecDepth 100000
set_option maxHeartbeats 4000000
namespace Mi
open PySem PySem.Spec PyProof.Rows L2
/-! ### arguments, displays, built-in calls -/
inductive Kd | full | own | root | cel (i : Nat)
  deriving DecidableEq
def RK (Γ : Ga) (σ : L2.St) (H0 H G : Hp) : Kd → V → D → Prop
  | .full, v, d => Dt Γ G v d
  | .own, v, d => RM Γ .own H0 H G v d
  | .root, v, d => RM Γ .root H0 H G v d
  | .cel i, v, _ => σ[i]? = some (some v)
def ownVs : List Kd → List V → List V
  | .own :: ks, v :: vs => v :: ownVs ks vs
  | _ :: ks, _ :: vs => ownVs ks vs
  | _, _ => []
def RKs (Γ : Ga) (σ : L2.St) (H0 H G : Hp) : List Kd → List V → List D → Prop
  | [], [], [] => True
  | k :: ks, v :: vs, d :: ds => RK Γ σ H0 H G k v d ∧ (k = .own → v ∉ ownVs ks vs) ∧ RKs Γ σ H0 H G ks vs ds
  | _, _, _ => False
inductive RA | ok (ds : List D) (ρ : Env) | ex (x : D) (ρ : Env)
def FinA (Γ : Ga) (cs ts : List Nat) (W : WX) (ks : List Kd) (σ : L2.St) (H G : Hp) (Q : List V → Hp → Prop) : Option RA → Prop
  | none => False
  | some (.ok ds ρ') => ∀ vs H' G', Rep Γ cs σ H' G' ρ' → Stp (T ts σ) H G H' G' → RKs Γ σ H H' G' ks vs ds → Q vs H'
  | some (.ex x ρ') => ∀ c dx H' G', Rep Γ cs σ H' G' ρ' → Stp (T ts σ) H G H' G' → Dx Γ H' G' c dx x → W c dx σ H'
abbrev EA := Env → Option RA
def tA (Γ : Ga) (cs ts : List Nat) (W : WX) (ks : List Kd) (f : EA) : TA := fun σ H Q => ∃ G ρ, Rep Γ cs σ H G ρ ∧ FinA Γ cs ts W ks σ H G Q (f ρ)
def aNil : EA := fun ρ => some (.ok [] ρ)
def aCons (f : E) (g : EA) : EA := fun ρ => match f ρ with
  | none => none
  | some (.ex x ρ1) => some (.ex x ρ1)
  | some (.ok d ρ1) => match g ρ1 with
    | some (.ok ds ρ2) => some (.ok (d :: ds) ρ2)
    | r => r
def Kd.fo : Kd → Bool
  | .full => true
  | .own => true
  | _ => false
def Kd.nc : Kd → Bool
  | .cel _ => false
  | _ => true
def Kd.md : Kd → Md
  | .full => .full
  | .own => .own
  | .root => .root
  | .cel _ => .full
section
variable {Γ : Ga} {cs ts : List Nat} {W : WX} {m : Md} {σ : L2.St} {H G H1 G1 H0 : Hp} {ρ : Env} {Q : List V → Hp → Prop} {f : E} {g : EA} {X : Cx} {e : Expr} {es : List Expr} {k : Kd} {ks : List Kd}
theorem RK.back {v : V} {d : D} (r : RK Γ σ H1 H G k v d) (t : ∀ a, H0 a ≠ none → H1 a ≠ none) : RK Γ σ H0 H G k v d := by
  cases k with
  | full => exact r
  | own => exact RM.back (m := .own) r t
  | root => exact r
  | cel i => exact r
theorem RKs.back : ∀ {ks : List Kd} {vs : List V} {ds : List D}, RKs Γ σ H1 H G ks vs ds → (∀ a, H0 a ≠ none → H1 a ≠ none) → RKs Γ σ H0 H G ks vs ds
  | [], [], [], _, _ => trivial
  | _ :: _, _ :: _, _ :: _, h, t => ⟨h.1.back t, h.2.1, h.2.2.back t⟩
  | [], [], _ :: _, h, _ => h.elim
  | [], _ :: _, _, h, _ => h.elim
  | _ :: _, [], _, h, _ => h.elim
  | _ :: _, _ :: _, [], h, _ => h.elim
theorem RKs.own : ∀ {ks : List Kd} {vs : List V} {ds : List D} {v : V}, RKs Γ σ H0 H G ks vs ds → v ∈ ownVs ks vs → ∃ a, v = .ref a ∧ H0 a = none
  | [], [], [], _, _, h => absurd h List.not_mem_nil
  | k :: ks, u :: vs, d :: ds, v, r, h => by
    cases k with
    | own =>
      unfold ownVs at h
      rcases List.mem_cons.mp h with e | h
      · obtain ⟨a, o, h1, h2, _⟩ := r.1
        exact ⟨a, e.trans h1, h2⟩
      · exact r.2.2.own h
    | full => exact r.2.2.own h
    | root => exact r.2.2.own h
    | cel i => exact r.2.2.own h
  | [], [], _ :: _, _, h, _ => h.elim
  | [], _ :: _, _, _, h, _ => h.elim
  | _ :: _, [], _, _, h, _ => h.elim
  | _ :: _, _ :: _, [], _, h, _ => h.elim
theorem FinA.step {q : Option RA} (h : FinA Γ cs ts W ks σ H G Q q) (s : Stp (T ts σ) H G H1 G1) : FinA Γ cs ts W ks σ H1 G1 Q q := by
  rcases q with _ | ⟨d, ρ'⟩ | ⟨x, ρ'⟩
  · exact h
  · exact fun v H' G' rep st rm => h v H' G' rep (s.tr st) (rm.back s.t)
  · exact fun c dx H' G' rep st q => h c dx H' G' rep (s.tr st) q
theorem ma_nil : PA X [] (tA Γ cs ts W [] aNil) := PA.imp pa_nil fun σ H Q ⟨G, ρ, rep, fin⟩ => fin [] H G rep Stp.refl trivial
/-- the head's value stands behind what touches the cells alone -/
theorem RK.keep {v : V} {d : D} {H2 G2 : Hp} (r : RK Γ σ H0 H1 G1 k v d) (hk : k ≠ .root) (rep0 : Rep Γ cs σ H0 G ρ) (hts : ∀ i ∈ ts, i ∈ cs) (st : Stp (T ts σ) H1 G1 H2 G2) : RK Γ σ H0 H2 G2 k v d := by
  cases k with
  | full => exact Dt.same st.g r
  | root => exact absurd rfl hk
  | cel i => exact r
  | own =>
    obtain ⟨a, o, h1, h2, h3, h4, h5⟩ := r
    have nT : ¬ T ts σ a := fun z => (rep0.tc (T.sub hts z)).1 h2
    exact ⟨a, o, h1, h2, st.h _ _ h3 nT, st.n a h4 (h5.nt h3) nT, h5.same st.g⟩
theorem ma_cons (he : PE X e (tE Γ cs ts W k.md f)) (hr : PA X es (tA Γ cs ts W ks g)) (hk : k.fo = true := by rfl) (hts : ∀ i ∈ ts, i ∈ cs := by first | exact nil_sub | exact all_sub | decide)
    (hs : starEach (e :: es) X.env = (false, eval e X.env) :: starEach es X.env := by rfl) : PA X (e :: es) (tA Γ cs ts W (k :: ks) (aCons f g)) :=
  PA.imp (pa_cons he hr hs) fun σ H Q ⟨G, ρ, rep, fin⟩ => by
    have toRK : ∀ {H1 G1 : Hp} {v : V} {d : D}, RM Γ k.md H H1 G1 v d → RK Γ σ H H1 G1 k v d := fun {H1 G1 v d} rm => by
      cases k with
      | full => exact rm
      | own => exact rm
      | root => cases hk
      | cel i => cases hk
    have nroot : k ≠ .root := by rintro rfl; cases hk
    refine ⟨G, ρ, rep, ?_⟩
    unfold aCons at fin
    generalize f ρ = r at fin ⊢
    rcases r with _ | ⟨d, ρ1⟩ | ⟨x, ρ1⟩
    · exact fin
    · intro v H1 G1 rep1 st1 rm
      refine ⟨G1, ρ1, rep1, ?_⟩
      dsimp only at fin
      generalize g ρ1 = r2 at fin ⊢
      rcases r2 with _ | ⟨ds, ρ2⟩ | ⟨x, ρ2⟩
      · exact fin
      · intro vs H2 G2 rep2 st2 rk
        have hd := (toRK rm).keep nroot rep hts st2
        refine fin (v :: vs) H2 G2 rep2 (st1.tr st2) ⟨hd, fun e hm => ?_, rk.back st1.t⟩
        subst e
        obtain ⟨a, h1, h2⟩ := rk.own hm
        obtain ⟨b, o, q1, q2, q3, _⟩ := rm
        rw [h1] at q1
        cases q1
        rw [q3] at h2
        cases h2
      · exact fun c dx H2 G2 rep2 st2 q => fin c dx H2 G2 rep2 (st1.tr st2) q
    · exact fin
/-- the head may be a cell's, what follows touches nothing -/
theorem ma_consR (he : PE X e (tE Γ cs ts W .root f)) (hr : PA X es (tA Γ cs [] W ks g)) (hs : starEach (e :: es) X.env = (false, eval e X.env) :: starEach es X.env := by rfl) : PA X (e :: es) (tA Γ cs ts W (.root :: ks) (aCons f g)) :=
  PA.imp (pa_cons he hr hs) fun σ H Q ⟨G, ρ, rep, fin⟩ => by
    refine ⟨G, ρ, rep, ?_⟩
    unfold aCons at fin
    generalize f ρ = r at fin ⊢
    rcases r with _ | ⟨d, ρ1⟩ | ⟨x, ρ1⟩
    · exact fin
    · intro v H1 G1 rep1 st1 rm
      refine ⟨G1, ρ1, rep1, ?_⟩
      dsimp only at fin
      generalize g ρ1 = r2 at fin ⊢
      rcases r2 with _ | ⟨ds, ρ2⟩ | ⟨x, ρ2⟩
      · exact fin
      · intro vs H2 G2 rep2 st2 rk
        refine fin (v :: vs) H2 G2 rep2 (st1.tr (st2.mono fun _ z => absurd z T.nil)) ⟨?_, (fun e _ => by cases e), rk.back st1.t⟩
        rcases rm with z | ⟨a, o, h1, h2, h3⟩
        · exact .inl (Dt.same st2.g z)
        · exact .inr ⟨a, o, h1, st2.h _ _ h2 T.nil, h3.same st2.g⟩
      · exact fun c dx H2 G2 rep2 st2 q => fin c dx H2 G2 rep2 (st1.tr (st2.mono fun _ z => absurd z T.nil)) q
    · exact fin
/-- a cell that is handed on -/
def eCel (i : Nat) : E := fun ρ => match ρ[i]? with
  | some (some _) => some (.ok .non ρ)
  | _ => none
theorem ma_cel {i : Nat} (he : PE X e (tVar i)) (hr : PA X es (tA Γ cs ts W ks g)) (hi : i ∈ cs := by decide) (hs : starEach (e :: es) X.env = (false, eval e X.env) :: starEach es X.env := by rfl) : PA X (e :: es) (tA Γ cs ts W (.cel i :: ks) (aCons (eCel i) g)) :=
  PA.imp (pa_cons he hr hs) fun σ H Q ⟨G, ρ, rep, fin⟩ => by
    unfold aCons eCel at fin
    cases q : ρ[i]? with
    | none => rw [q] at fin; exact fin.elim
    | some y =>
      cases y with
      | none => rw [q] at fin; exact fin.elim
      | some d =>
        rw [q] at fin
        obtain ⟨a, o, h1, h2, h3, h4⟩ := rep.own i d hi q
        refine ⟨.ref a, h1, G, ρ, rep, ?_⟩
        dsimp only at fin
        generalize g ρ = r2 at fin ⊢
        rcases r2 with _ | ⟨ds, ρ2⟩ | ⟨x, ρ2⟩
        · exact fin
        · exact fun vs H2 G2 rep2 st2 rk => fin _ H2 G2 rep2 st2 ⟨h1, (fun e _ => by cases e), rk⟩
        · exact fin
/-! ### tuples, lists -/
theorem RKs.fulls : ∀ {ks : List Kd} {vs : List V} {ds : List D}, (∀ k ∈ ks, k = .full) → RKs Γ σ H0 H G ks vs ds → Dts Γ G vs ds
  | [], [], [], _, _ => .nil
  | k :: ks, _ :: _, _ :: _, hk, h => by
    have e := hk k List.mem_cons_self
    subst e
    exact .cons h.1 (h.2.2.fulls fun k hm => hk k (List.mem_cons_of_mem _ hm))
  | [], [], _ :: _, _, h => h.elim
  | [], _ :: _, _, _, h => h.elim
  | _ :: _, [], _, _, h => h.elim
  | _ :: _, _ :: _, [], _, h => h.elim
theorem RKs.len : ∀ {ks : List Kd} {vs : List V} {ds : List D}, RKs Γ σ H0 H G ks vs ds → vs.length = ks.length
  | [], [], [], _ => rfl
  | k :: ks, _ :: _, _ :: _, h => congrArg (· + 1) h.2.2.len
  | [], [], _ :: _, h => h.elim
  | [], _ :: _, _, h => h.elim
  | _ :: _, [], _, h => h.elim
  | _ :: _, _ :: _, [], h => h.elim
def aBind (r : Option RA) (k : List D → Env → Option R) : Option R := match r with
  | none => none
  | some (.ok d ρ) => k d ρ
  | some (.ex x ρ) => some (.ex x ρ)
@[simp] theorem aBind_ok {d : List D} {ρ : Env} {k : List D → Env → Option R} : aBind (some (.ok d ρ)) k = k d ρ := rfl
@[simp] theorem aBind_ex {d : D} {ρ : Env} {k : List D → Env → Option R} : aBind (some (.ex d ρ)) k = some (.ex d ρ) := rfl
@[simp] theorem aBind_none {k : List D → Env → Option R} : aBind none k = none := rfl
theorem finA_bind {r : Option RA} {K : List D → Env → Option R} {Q : VK} {Q1 : List V → Hp → Prop} (fin : Fin Γ cs ts W m σ H G Q (aBind r K))
    (hk : ∀ vs ds ρ1 H1 G1, Rep Γ cs σ H1 G1 ρ1 → Stp (T ts σ) H G H1 G1 → RKs Γ σ H H1 G1 ks vs ds → Fin Γ cs ts W m σ H G Q (K ds ρ1) → Q1 vs H1) : FinA Γ cs ts W ks σ H G Q1 r := by
  rcases r with _ | ⟨d, ρ'⟩ | ⟨x, ρ'⟩
  · exact fin
  · exact fun v H' G' rep st rm => hk v d ρ' H' G' rep st rm fin
  · exact fin
def eTup (g : EA) : E := fun ρ => aBind (g ρ) fun ds ρ1 => some (.ok (.tup ds) ρ1)
def eLst (g : EA) : E := fun ρ => aBind (g ρ) fun ds ρ1 => some (.ok (.lst ds) ρ1)
theorem small_len {n : Nat} (h : n ≤ 1000) : n ≤ sizeLine := Nat.le_trans h (by decide)
theorem SqT.sees {K : PySem.W.Frag} {a : Addr} {vs : List V} {H : Hp} : SqT K (upd H a (.tup vs)) a vs := .inl (.inl upd_same)
theorem me_lst {pos : Pos} (h : PA X es (tA Γ cs ts W ks g)) (hk : ∀ k ∈ ks, k = .full := by decide) (hl : ks.length ≤ 1000 := by decide) : PE X (.List es pos) (tE Γ cs ts W .own (eLst g)) :=
  PE.imp (pe_lst h) fun σ H Q ⟨G, ρ, rep, fin⟩ => ⟨G, ρ, rep, finA_bind fin fun vs ds ρ1 H1 G1 rep1 st1 rk fin1 => ⟨small_len (by rw [rk.len]; exact hl), fun p np => by
    have ex : Ext H1 G1 (upd H1 p (.lst vs)) G1 := Ext.newOwn rep1.sub np
    exact fin_ret (fin1.step st1) rep1 ex ⟨p, _, rfl, np, upd_same, free_sub rep1.sub np, .lst (rk.fulls hk)⟩⟩⟩
/-! ### built-in calls by values -/
/-- each value with what stands at its root -/
inductive RVs (Γ : Ga) (H G : Hp) : List V → List D → Prop
  | nil : RVs Γ H G [] []
  | cons {v : V} {d : D} {vs : List V} {ds : List D} (h : RM Γ .root H H G v d) (r : RVs Γ H G vs ds) : RVs Γ H G (v :: vs) (d :: ds)
theorem RKs.roots : ∀ {ks : List Kd} {vs : List V} {ds : List D}, (∀ k ∈ ks, k.nc = true) → RKs Γ σ H0 H G ks vs ds → RVs Γ H G vs ds
  | [], [], [], _, _ => .nil
  | k :: ks, _ :: _, _ :: _, hk, h => by
    have e := hk k List.mem_cons_self
    refine .cons ?_ (h.2.2.roots fun k hm => hk k (List.mem_cons_of_mem _ hm))
    cases k with
    | full => exact .inl h.1
    | root => exact h.1
    | own =>
      obtain ⟨a, o, h1, _, h3, _, h5⟩ := h.1
      exact .inr ⟨a, o, h1, h3, h5⟩
    | cel i => cases e
  | [], [], _ :: _, _, h => h.elim
  | [], _ :: _, _, _, h => h.elim
  | _ :: _, [], _, _, h => h.elim
  | _ :: _, _ :: _, [], _, h => h.elim
def SoA (Γ : Ga) (m : Md) (r : List V → Hp → VK → Prop) (op : List D → Option D) : Prop := ∀ (H G : Hp) (xs : List V) (ds : List D) (z : D) (Q : VK), Same G H → RVs Γ H G xs ds → op ds = some z →
  (∀ v H' G', Ext H G H' G' → RM Γ m H H' G' v z → Q v H') → r xs H Q
def eB (op : List D → Option D) (g : EA) : E := fun ρ => aBind (g ρ) fun ds ρ1 => lift (op ds) ρ1
theorem coreB {r : List V → Hp → VK → Prop} {op : List D → Option D} (so : SoA Γ m r op) (hk : ∀ k ∈ ks, k.nc = true) {Q : VK} (h : tE Γ cs ts W m (eB op g) σ H Q) : tCB r (tA Γ cs ts W ks g) σ H Q := by
  obtain ⟨G, ρ, rep, fin⟩ := h
  refine ⟨G, ρ, rep, finA_bind fin fun vs ds ρ1 H1 G1 rep1 st1 rk fin1 => ?_⟩
  cases e : op ds with
  | none => rw [e] at fin1; exact fin1.elim
  | some z =>
    rw [e] at fin1
    exact so H1 G1 vs ds z Q rep1.sub (rk.roots hk) e fun u H' G' ex rm => fin_ret (fin1.step st1) rep1 ex rm
section
variable {x : Str} {p pos : Pos} {id : String} {r : List V → Hp → VK → Prop} {op : List D → Option D}
theorem me_callB (hc : CallR X (.builtin id) r) (so : SoA Γ m r op) (hg : Gl X x) (hm : X.mg x = none) (hv : bootBuiltins x = some (.builtin id)) (ha : PA X (e :: es) (tA Γ cs ts W ks g)) (hk : ∀ k ∈ ks, k.nc = true := by decide)
    (hn : x ≠ "__name__" := by decide) (hd : (x == ("__debug__" : Str)) = false := by decide) (he : starEach (e :: es) X.env = (false, eval e X.env) :: starEach es X.env := by rfl) (hpl : (backTo pos (starEach es X.env)).any (·.1) = false := by rfl) :
    PE X (.Call (.Name x p) (e :: es) [] pos) (tE Γ cs ts W m (eB op g)) :=
  PE.imp (pe_callB hc hg hm hv ha (hn := hn) (hdb := hd) (he := he) (hpl := hpl)) fun _ _ _ h => coreB so hk h
theorem me_callTy {Ty : String} (hc : CallR X (.type Ty) r) (so : SoA Γ m r op) (hg : Gl X x) (hm : X.mg x = none) (hv : bootBuiltins x = some (.type Ty)) (ha : PA X (e :: es) (tA Γ cs ts W ks g)) (hk : ∀ k ∈ ks, k.nc = true := by decide) (hn : x ≠ "__name__" := by decide) (hd : (x == ("__debug__" : Str)) = false := by decide)
    (he : starEach (e :: es) X.env = (false, eval e X.env) :: starEach es X.env := by rfl) (hpl : (backTo pos (starEach es X.env)).any (·.1) = false := by rfl) : PE X (.Call (.Name x p) (e :: es) [] pos) (tE Γ cs ts W m (eB op g)) :=
  PE.imp (pe_callTy hc hg hm hv ha (hn := hn) (hdb := hd) (he := he) (hpl := hpl)) fun _ _ _ h => coreB so hk h
end
end
end Mi

set_option linter.all false
namespace Lk
/-! ### words as lists of letters: true is x -/
def nx (l : List Bool) : Nat := l.count true
def ny (l : List Bool) : Nat := l.count false
theorem nx_t (r : List Bool) : nx (true :: r) = nx r + 1 := by simp [nx]
theorem nx_f (r : List Bool) : nx (false :: r) = nx r := by simp [nx]
theorem ny_t (r : List Bool) : ny (true :: r) = ny r := by simp [ny]
theorem ny_f (r : List Bool) : ny (false :: r) = ny r + 1 := by simp [ny]
theorem nxy (l : List Bool) : nx l + ny l = l.length := by
  induction l with
  | nil => rfl
  | cons b r ih =>
    cases b
    · rw [nx_f, ny_f, List.length_cons]; omega
    · rw [nx_t, ny_t, List.length_cons]; omega
/-- the letters and their feet -/
def feetL : List Bool → List (Bool × Nat × Nat)
  | [] => []
  | b :: r => (b, nx r, ny r) :: feetL r
/-- the key of a cell -/
def keyL : List Bool → Nat → Nat → Nat
  | [], _, _ => 0
  | true :: r, x, y => x / 2 ^ nx r % 2 * 2 ^ r.length + keyL r x y
  | false :: r, x, y => y / 2 ^ ny r % 2 * 2 ^ r.length + keyL r x y
def xOf : List Bool → Nat → Nat
  | [], _ => 0
  | true :: r, k => k / 2 ^ r.length % 2 * 2 ^ nx r + xOf r k
  | false :: r, k => xOf r k
def yOf : List Bool → Nat → Nat
  | [], _ => 0
  | true :: r, k => yOf r k
  | false :: r, k => k / 2 ^ r.length % 2 * 2 ^ ny r + yOf r k
theorem bit_lt {d k : Nat} (n : Nat) (hd : d < 2) (hk : k < 2 ^ n) : d * 2 ^ n + k < 2 ^ (n + 1) := by
  have h1 : d * 2 ^ n ≤ 1 * 2 ^ n := Nat.mul_le_mul_right _ (by omega)
  rw [Nat.pow_succ]
  omega
theorem keyL_lt : ∀ (l : List Bool) (x y : Nat), keyL l x y < 2 ^ l.length
  | [], _, _ => Nat.zero_lt_one
  | true :: r, x, y => bit_lt _ (Nat.mod_lt _ (by decide)) (keyL_lt r x y)
  | false :: r, x, y => bit_lt _ (Nat.mod_lt _ (by decide)) (keyL_lt r x y)
def rowsL (n m : Nat) : List Bool := List.replicate m false ++ List.replicate n true
def colsL (n m : Nat) : List Bool := List.replicate n true ++ List.replicate m false
def yxs : Nat → List Bool
  | 0 => []
  | t + 1 => false :: true :: yxs t
def lacedL (n m : Nat) : List Bool := List.replicate (n - min n m) true ++ List.replicate (m - min n m) false ++ yxs (min n m)
def tiledL (n m a b : Nat) : List Bool := rowsL (n - a) (m - b) ++ rowsL a b
end Lk

set_option Elab.async false
set_option linter.all false
set_option maxRecDepth 100000
set_option maxHeartbeats 4000000
namespace Lk
open PySem PySem.Spec PyProof.Rows L2
/-! ### the texts of words -/
def sg (b : Bool) : Nat := if b = true then 120 else 121
def wS (l : List Bool) : Str := ⟨(l.map sg).toArray⟩
theorem wS_len (l : List Bool) : (wS l).length = l.length := by simp [wS, Str.length]
theorem wS_list (l : List Bool) : (wS l).cps.toList = l.map sg := by simp [wS]
/-- one letter -/
def lt (b : Bool) : Str := ⟨#[sg b]⟩
theorem wS_size (l : List Bool) : (wS l).cps.size = l.length := wS_len l
theorem hu_of' {X : Cx} {k : Nat} (hr : Room k X.A) : X.A.units + 64 < cLine := hr.units

/-! ### heaps -/
theorem Same.seqT {K : PySem.W.Frag} {H H' : Hp} {a : Addr} {xs : List V} (e : Same H H') (h : SqT K H a xs) : SqT K H' a xs := by
  rcases h with (h | ⟨o, h⟩) | h
  · exact .inl (.inl (e _ _ h))
  · exact .inl (.inr ⟨o, e _ _ h⟩)
  · exact .inr h
/-- all but the object at r -/
def But (r : Addr) (H H' : Hp) : Prop := ∀ b o, b ≠ r → H b = some o → H' b = some o
theorem But.refl {r : Addr} {H : Hp} : But r H H := fun _ _ _ q => q
theorem But.trans {r : Addr} {H H1 H2 : Hp} (a : But r H H1) (b : But r H1 H2) : But r H H2 := fun c o n q => b c o n (a c o n q)
theorem Same.but {r : Addr} {H H' : Hp} (e : Same H H') : But r H H' := fun b o _ q => e b o q
theorem But.upd {r : Addr} {H : Hp} {o : HO} : But r H (upd H r o) := fun b x n q => by
  rw [upd_ne n]
  exact q
theorem But.free {r : Addr} {H H' : Hp} (e : But r H H') {p : Addr} (h : H' p = none) (n : p ≠ r) : H p = none := by
  cases q : H p with
  | none => rfl
  | some o =>
    rw [e p o n q] at h
    cases h
/-- the reel: three numbers; the third is at most n -/
def Reel (H : Hp) (r : Addr) (n : Nat) : Prop := ∃ a b c : Int, H r = some (.lst [.int a, .int b, .int c]) ∧ 0 ≤ a ∧ 0 ≤ b ∧ b < 2 ^ 200 ∧ 0 ≤ c ∧ c ≤ (n : Int)
theorem Reel.same {H H' : Hp} {r : Addr} {n : Nat} (e : Same H H') (h : Reel H r n) : Reel H' r n := by
  obtain ⟨a, b, c, h1, h2⟩ := h
  exact ⟨a, b, c, e _ _ h1, h2⟩
/-- a Layout -/
def lf (l : List Bool) : List (Str × V) := [("_word", .str (wS l)), ("_x_bits", .int (nx l)), ("_y_bits", .int (ny l))]
def Lay (C : Addr) (H : Hp) (p : Addr) (l : List Bool) : Prop := ∃ dx, H p = some (.ins C dx (lf l))
theorem Lay.same {C : Addr} {H H' : Hp} {p : Addr} {l : List Bool} (e : Same H H') (h : Lay C H p l) : Lay C H' p l := by
  obtain ⟨dx, h⟩ := h
  exact ⟨dx, e _ _ h⟩
theorem Lay.but {C r : Addr} {H H' : Hp} {p : Addr} {l : List Bool} (e : But r H H') (n : p ≠ r) (h : Lay C H p l) : Lay C H' p l := by
  obtain ⟨dx, h⟩ := h
  exact ⟨dx, e _ _ n h⟩
/-- a word as Layout takes it -/
def GoodW (l : List Bool) : Prop := l ≠ [] ∧ nx l ≤ 100 ∧ ny l ≤ 100
theorem GoodW.len {l : List Bool} (h : GoodW l) : l.length ≤ 200 := by
  have := nxy l
  have := h.2
  omega
theorem Reel.ne {H : Hp} {r p : Addr} {n : Nat} (h : Reel H r n) (hp : H p = none) : p ≠ r := fun z => by
  obtain ⟨_, _, _, e, _⟩ := h
  rw [z, e] at hp
  cases hp
@[elab_as_elim] theorem to_any {p : Hp → Prop} {H H' : Hp} (e : Same H H') (h : ∀ H2, Same H H2 → p H2) : p H' := h H' e
/-- the feet as they stand -/
def FeetAt (H : Hp) (p : Addr) (ts : List Addr) (fl : List (Bool × Nat × Nat)) : Prop :=
  H p = some (.lst (ts.map V.ref)) ∧ ts.length = fl.length ∧ ∀ (k : Nat) (t : Addr) (f : Bool × Nat × Nat), ts[k]? = some t → fl[k]? = some f → H t = some (.tup [.str (lt f.1), .int (f.2.1 : Nat), .int (f.2.2 : Nat)])
theorem FeetAt.same {H H' : Hp} {p : Addr} {ts : List Addr} {fl : List (Bool × Nat × Nat)} (e : Same H H') (h : FeetAt H p ts fl) : FeetAt H' p ts fl :=
  ⟨e _ _ h.1, h.2.1, fun k t f h1 h2 => e _ _ (h.2.2 k t f h1 h2)⟩
end Lk

set_option Elab.async false
set_option linter.all false
set_option maxRecDepth 100000
set_option maxHeartbeats 4000000
namespace Lk
open PySem PySem.Spec PyProof.Rows L2
/-! ### plain data: numbers of a thousand bits, short words -/
def Atm : PyData → Prop
  | .int i => i.natAbs < 2 ^ 1000
  | .str x => ∃ l : List Bool, x = wS l ∧ l.length ≤ 1000
  | .none => True
  | .bool _ => True
  | _ => False
theorem sg_lt (b : Bool) : sg b < 128 := by cases b <;> decide
theorem wS_cp {l : List Bool} {c : Nat} (h : c ∈ (wS l).cps.toList) : c < 128 := by
  rw [wS_list] at h
  obtain ⟨b, _, e⟩ := List.mem_map.mp h
  rw [← e]
  exact sg_lt b
theorem ofString_len (s : String) : (Str.ofString s).length = s.length := by
  rw [Str.ofString_eq_toList]
  show (s.toList.map Char.toNat).toArray.size = _
  rw [List.size_toArray, List.length_map]
  first
    | rfl
    | exact String.length_toList
    | exact s.length_toList
    | exact (String.length_toList s)
theorem atm_ok (d : PyData) (h : Atm d) : d.showable = true ∧ d.hasDict = false ∧ d.depth = 0 ∧ d.canLay0 = true ∧ d.leavesShort 1002 = true ∧ d.weight ≤ 1000 := by
  cases d with
  | none => simp [PyData.showable, PyData.hasDict, PyData.depth, PyData.canLay0, PyData.leavesShort, PyData.weight]
  | bool b => simp [PyData.showable, PyData.hasDict, PyData.depth, PyData.canLay0, PyData.leavesShort, PyData.weight]
  | int i =>
    have h' : i.natAbs < 2 ^ 1000 := h
    have hl : i.natAbs.log2 < 1000 := PySem.Flt.log2_lt_of (by decide) h'
    refine ⟨?_, by simp only [PyData.hasDict], by simp only [PyData.depth], by simp only [PyData.canLay0], ?_, ?_⟩
    · simp only [PyData.showable]
      exact decide_eq_true (by omega)
    · simp only [PyData.leavesShort, PyData.shown]
      refine decide_eq_true ?_
      rw [ofString_len]
      have := int_text_length_le (by decide) hl
      omega
    · simp only [PyData.weight]
      split <;> omega
  | str x =>
    obtain ⟨l, rfl, hl⟩ : ∃ l : List Bool, x = wS l ∧ l.length ≤ 1000 := h
    refine ⟨by simp only [PyData.showable], by simp only [PyData.hasDict], by simp only [PyData.depth], ?_, ?_, ?_⟩
    · simp only [PyData.canLay0]
      show (wS l).cps.all (· < 0x110000) = true
      rw [← Array.all_toList, List.all_eq_true]
      intro c hc
      exact decide_eq_true (Nat.lt_trans (wS_cp hc) (by decide))
    · simp only [PyData.leavesShort]
      rw [List.all_eq_true]
      intro c hc
      exact decide_eq_true (Nat.lt_trans (wS_cp hc) (by decide))
    · simp only [PyData.weight]
      rw [wS_size]
      exact hl
  | list _ => exact h.elim
  | tuple _ => exact h.elim
  | dict _ => exact h.elim
/-- what repr and == ask of a list or tuple of such -/
def RpOk (d : PyData) : Prop := d.showable = true ∧ d.hasDict = false ∧ d.depth ≤ 8 ∧ d.shown.length ≤ sizeLine
theorem eqv_same {d : PyData} (h : SeqAt.shaped d = true) : PyData.eqv d d = true := SeqAt.eqv_refl d (SeqAt.canLay_of_shaped h)
def cn (l : List Bool) (i : Nat) : Nat := if i = 0 then nx l else ny l
def pick (u v ax : Nat) : Nat := if ax = 0 then u else v
end Lk

set_option Elab.async false
set_option linter.all false
set_option maxRecDepth 100000
set_option maxHeartbeats 4000000
namespace Mi
open PySem PySem.Spec PyProof.Rows L2
/-! ### operations on data -/
section
variable {Γ : Ga} {H0 H G : Hp} {x : V} {d : D}
theorem root_int {i : Int} (h : RM Γ .root H0 H G x (.int i)) : x = .int i := by
  rcases h with h | ⟨a, o, _, _, h⟩
  · cases h; rfl
  · cases h
theorem root_str {s : Str} (h : RM Γ .root H0 H G x (.str s)) : x = .str s := by
  rcases h with h | ⟨a, o, _, _, h⟩
  · cases h; rfl
  · cases h
theorem root_bl {b : Bool} (h : RM Γ .root H0 H G x (.bl b)) : x = .bl b := by
  rcases h with h | ⟨a, o, _, _, h⟩
  · cases h; rfl
  · cases h
theorem root_lst {ds : List D} (s : Same G H) (h : RM Γ .root H0 H G x (.lst ds)) : ∃ a vs, x = .ref a ∧ H a = some (.lst vs) ∧ Dts Γ G vs ds := by
  rcases h with h | ⟨a, o, rfl, e, h⟩
  · cases h with
    | lst h r => exact ⟨_, _, rfl, s _ _ h, r⟩
  · cases h with
    | lst r => exact ⟨a, _, rfl, e, r⟩
theorem root_tup {ds : List D} (s : Same G H) (h : RM Γ .root H0 H G x (.tup ds)) : ∃ a vs, x = .ref a ∧ G a = some (.tup vs) ∧ SqT Γ.K H a vs ∧ Dts Γ G vs ds := by
  rcases h with h | ⟨a, o, rfl, e, h⟩
  · cases h with
    | tup h r => exact ⟨_, _, rfl, h, SqT.of (s _ _ h), r⟩
  · cases h
/-- the items of a list -/
def listD : D → Option (List D)
  | .lst ds => some ds
  | .slst ns => some (ns.map .int)
  | _ => none
theorem root_list {ds : List D} (s : Same G H) (h : RM Γ .root H0 H G x d) (e : listD d = some ds) : ∃ a vs, x = .ref a ∧ SqL Γ.K H a vs ∧ Dts Γ G vs ds := by
  cases d with
  | lst ds' =>
    cases e
    obtain ⟨a, vs, h1, h2, h3⟩ := root_lst s h
    exact ⟨a, vs, h1, SqL.of h2, h3⟩
  | slst ns =>
    cases e
    rcases h with h | ⟨a, o, _, _, h⟩
    · cases h with
      | slst h => exact ⟨_, _, rfl, s.seq h, Dts.ints ns⟩
    · cases h
  | _ => cases e
end
/-- a list of ints -/
def intsD : List D → Option (List Int)
  | [] => some []
  | .int i :: r => (intsD r).map (i :: ·)
  | _ => none
@[simp] theorem intsD_map : ∀ ns : List Int, intsD (ns.map .int) = some ns
  | [] => rfl
  | n :: ns => by
    show (intsD (ns.map .int)).map (n :: ·) = _
    rw [intsD_map ns]
    rfl
def blsD : List D → Option (List Bool)
  | [] => some []
  | .bl i :: r => (blsD r).map (i :: ·)
  | _ => none
@[simp] theorem blsD_map : ∀ ns : List Bool, blsD (ns.map .bl) = some ns
  | [] => rfl
  | n :: ns => by
    show (blsD (ns.map .bl)).map (n :: ·) = _
    rw [blsD_map ns]
    rfl
/-! #### numbers -/
def subD : D → D → Option D
  | .int a, .int b => some (.int (a - b))
  | _, _ => none
def addD : D → D → Option D
  | .int a, .int b => some (.int (a + b))
  | .str a, .str b => if a.length + b.length ≤ sizeLine then some (.str (a ++ b)) else none
  | .lst a, .lst b => if a.length + b.length ≤ sizeLine then some (.lst (a ++ b)) else none
  | .tup a, .tup b => if a.length + b.length ≤ sizeLine then some (.tup (a ++ b)) else none
  | _, _ => none
def catD : D → D → Option D
  | .lst a, .lst b => if a.length + b.length ≤ sizeLine then some (.lst (a ++ b)) else none
  | _, _ => none
def repC (l : Nat) (n : Int) : Prop := -1000000 ≤ n ∧ n < 1000000 ∧ l * n.toNat ≤ 1000000
noncomputable instance (l : Nat) (n : Int) : Decidable (repC l n) := Classical.propDecidable _
/-- what may be multiplied -/
def mulC (a b : Int) : Prop := (-18446744073709551616 < a ∧ a < 18446744073709551616) ∨ (-18446744073709551616 < b ∧ b < 18446744073709551616) ∨ a.natAbs.log2 + b.natAbs.log2 < 1000000
noncomputable instance (a b : Int) : Decidable (mulC a b) := Classical.propDecidable _
/-- by what may be divided -/
def divC (b : Int) : Prop := 0 < b ∧ b.natAbs.log2 < 9000
noncomputable instance (b : Int) : Decidable (divC b) := Classical.propDecidable _
def shlC (a b : Int) : Prop := 0 ≤ b ∧ ((a.natAbs.log2 + 1 : Nat) : Int) + b ≤ 1000000
noncomputable instance (a b : Int) : Decidable (shlC a b) := Classical.propDecidable _
def powC (a b : Int) : Prop := 0 ≤ b ∧ ((a.natAbs.log2 + 1 : Nat) : Int) * b ≤ 100000
noncomputable instance (a b : Int) : Decidable (powC a b) := Classical.propDecidable _
noncomputable def mulD : D → D → Option D
  | .int a, .int b => if mulC a b then some (.int (a * b)) else none
  | .str a, .int n => if a.length ≤ 1000 ∧ -1000 ≤ n ∧ n ≤ 1000 then some (.str (Txt.mul a n)) else none
  | .lst a, .int n => if repC a.length n then some (.lst (List.replicate n.toNat a).flatten) else none
  | _, _ => none
noncomputable def repD : D → D → Option D
  | .lst a, .int n => if repC a.length n then some (.lst (List.replicate n.toNat a).flatten) else none
  | _, _ => none
def modD : D → D → Option D
  | .int a, .int b => if 0 < b then some (.int (a % b)) else none
  | _, _ => none
noncomputable def divD : D → D → Option D
  | .int a, .int b => if divC b then some (.int (a / b)) else none
  | _, _ => none
noncomputable def powD : D → D → Option D
  | .int a, .int b => if powC a b then some (.int (a ^ b.toNat)) else none
  | _, _ => none
noncomputable def shlD : D → D → Option D
  | .int a, .int b => if shlC a b then some (.int (a * 2 ^ b.toNat)) else none
  | _, _ => none
def shrD : D → D → Option D
  | .int a, .int b => if 0 ≤ b then some (.int (a / 2 ^ b.toNat)) else none
  | _, _ => none
def andD : D → D → Option D
  | .int a, .int b => some (.int (Builtin.bitAnd a b))
  | _, _ => none
def xorD : D → D → Option D
  | .int a, .int b => some (.int (Builtin.bitXor a b))
  | _, _ => none
def negD : D → Option D
  | .int a => some (.int (-a))
  | _ => none
section
variable {Γ : Ga} {X : Cx}
theorem so_int {C : Int → Int → Prop} {g : Int → Int → Int} {op : D → D → Option D} (h : ∀ a b z, op a b = some z → ∃ i j, a = .int i ∧ b = .int j ∧ C i j ∧ z = .int (g i j)) : So2 Γ .full (rI C fun i j => .int (g i j)) op :=
  fun H G x y a b z Q s ha hb e q => by
    obtain ⟨i, j, rfl, rfl, hc, rfl⟩ := h _ _ _ e
    exact ⟨i, j, root_int ha, root_int hb, hc, q _ H G (Ext.refl s) (.int _)⟩
theorem so_int0 {g : Int → Int → Int} {op : D → D → Option D} (h : ∀ a b z, op a b = some z → ∃ i j, a = .int i ∧ b = .int j ∧ z = .int (g i j)) : So2 Γ .full (rI0 fun i j => .int (g i j)) op :=
  fun H G x y a b z Q s ha hb e q => by
    obtain ⟨i, j, rfl, rfl, rfl⟩ := h _ _ _ e
    exact ⟨i, j, root_int ha, root_int hb, q _ H G (Ext.refl s) (.int _)⟩
theorem so_bool0 {g : Int → Int → Bool} {op : D → D → Option D} (h : ∀ a b z, op a b = some z → ∃ i j, a = .int i ∧ b = .int j ∧ z = .bl (g i j)) : So2 Γ .full (rI0 fun i j => .bl (g i j)) op :=
  fun H G x y a b z Q s ha hb e q => by
    obtain ⟨i, j, rfl, rfl, rfl⟩ := h _ _ _ e
    exact ⟨i, j, root_int ha, root_int hb, q _ H G (Ext.refl s) (.bl _)⟩
theorem so_sub : So2 Γ .full (rI0 fun i j => .int (i - j)) subD := so_int0 fun a b z h => by
  unfold subD at h
  split at h
  · exact ⟨_, _, rfl, rfl, (Option.some.inj h).symm⟩
  · cases h
theorem so_mod : So2 Γ .full (rI (fun _ j => 0 < j) fun i j => .int (i % j)) modD := so_int fun a b z h => by
  unfold modD at h
  split at h
  · split at h
    · rename_i hc
      exact ⟨_, _, rfl, rfl, hc, (Option.some.inj h).symm⟩
    · cases h
  · cases h
theorem so_div : So2 Γ .full (rI CDivW fun i j => .int (i / j)) divD := so_int fun a b z h => by
  unfold divD at h
  split at h
  · split at h
    · rename_i hc
      exact ⟨_, _, rfl, rfl, hc, (Option.some.inj h).symm⟩
    · cases h
  · cases h
theorem so_pow : So2 Γ .full (rI Lk.CPowB fun i j => .int (i ^ j.toNat)) powD := so_int fun a b z h => by
  unfold powD at h
  split at h
  · split at h
    · rename_i a b hc
      refine ⟨_, _, rfl, rfl, ⟨a.natAbs.log2 + 1, Nat.lt_log2_self, hc.1, hc.2⟩, (Option.some.inj h).symm⟩
    · cases h
  · cases h
/-! #### sums, products of lists too -/
def rAddD (K : PySem.W.Frag) : R2 := fun x y H Q => rI0 (fun i j => .int (i + j)) x y H Q ∨ (∃ i j, x = .str i ∧ y = .str j ∧ i.length + j.length ≤ sizeLine ∧ Q (.str (i ++ j)) H) ∨ rCat x y H Q ∨ rCatA K x y H Q
theorem o_add {K : PySem.W.Frag} (hK : X.K = K := by rfl) : OpR X (binaryOp .Add) (rAddD K) := by
  subst hK
  exact op_add.or (op_add_str.or (op_cat.or op_catA))
theorem SqT.in {K : PySem.W.Frag} {H : Hp} {a : Addr} {vs : List V} : SqT K (upd H a (.tup vs)) a vs := .inl (.inl upd_same)
theorem so_add : So2 Γ .full (rAddD Γ.K) addD := fun H G x y a b z Q s ha hb e q => by
  unfold addD at e
  split at e
  · cases e
    exact .inl ⟨_, _, root_int ha, root_int hb, q _ H G (Ext.refl s) (.int _)⟩
  · split at e
    · rename_i hc
      cases e
      exact .inr (.inl ⟨_, _, root_str ha, root_str hb, hc, q _ H G (Ext.refl s) (.str _)⟩)
    · cases e
  · split at e
    · rename_i a b hc
      cases e
      obtain ⟨p, vs, rfl, h1, h2⟩ := root_lst s ha
      obtain ⟨p2, vs2, rfl, h3, h4⟩ := root_lst s hb
      refine .inr (.inr (.inl ⟨p, p2, vs, vs2, rfl, rfl, h1, h3, by rw [h2.len, h4.len]; exact hc, fun t nt => ?_⟩))
      have ex : Ext H G (upd H t (.lst (vs ++ vs2))) (upd G t (.lst (vs ++ vs2))) := Ext.new s nt
      exact q _ _ _ ex (Dt.lst upd_same ((h2.app h4).same ex.st.g))
    · cases e
  · split at e
    · rename_i a b hc
      cases e
      obtain ⟨p, vs, rfl, h0, h1, h2⟩ := root_tup s ha
      obtain ⟨p2, vs2, rfl, h0', h3, h4⟩ := root_tup s hb
      refine .inr (.inr (.inr ⟨p, p2, vs, vs2, rfl, rfl, h1, h3, by rw [h2.len, h4.len]; exact hc, fun z => ?_, fun _ z => ?_, fun _ _ t nt => ?_⟩))
      · subst z
        cases h2
        exact q _ H G (Ext.refl s) (Dt.tup h0' h4)
      · subst z
        cases h4
        rw [List.append_nil] at q
        exact q _ H G (Ext.refl s) (Dt.tup h0 h2)
      · have ex : Ext H G (upd H t (.tup (vs ++ vs2))) (upd G t (.tup (vs ++ vs2))) := Ext.new s nt
        exact q _ _ _ ex (Dt.tup upd_same ((h2.app h4).same ex.st.g))
    · cases e
  · cases e
def rMulD : R2 := fun x y H Q => rI CMul (fun i j => .int (i * j)) x y H Q ∨ rI CMulW (fun i j => .int (i * j)) x y H Q ∨ Lk.rMulS x y H Q ∨ rRep x y H Q
theorem o_mul : OpR X (binaryOp .Mult) rMulD := op_mul.or (op_mulW.or (Lk.op_mulS.or op_rep))
theorem so_mul : So2 Γ .full rMulD mulD := fun H G x y a b z Q s ha hb e q => by
  unfold mulD at e
  split at e
  · split at e
    · rename_i hc
      cases e
      rcases hc with hc | hc | hc
      · exact .inl ⟨_, _, root_int ha, root_int hb, .inl hc, q _ H G (Ext.refl s) (.int _)⟩
      · exact .inl ⟨_, _, root_int ha, root_int hb, .inr hc, q _ H G (Ext.refl s) (.int _)⟩
      · exact .inr (.inl ⟨_, _, root_int ha, root_int hb, hc, q _ H G (Ext.refl s) (.int _)⟩)
    · cases e
  · split at e
    · rename_i hc
      cases e
      exact .inr (.inr (.inl ⟨_, _, root_str ha, root_int hb, hc.1, hc.2.1, hc.2.2, q _ H G (Ext.refl s) (.str _)⟩))
    · cases e
  · split at e
    · rename_i a n hc
      cases e
      obtain ⟨p, vs, rfl, h1, h2⟩ := root_lst s ha
      obtain ⟨c1, c2, c3⟩ := hc
      refine .inr (.inr (.inr ⟨p, n, vs, rfl, root_int hb, h1, by omega, by omega, by rw [h2.len]; exact Nat.le_trans c3 (by decide), fun t nt => ?_⟩))
      have ex : Ext H G (upd H t (.lst (List.replicate n.toNat vs).flatten)) (upd G t (.lst (List.replicate n.toNat vs).flatten)) := Ext.new s nt
      exact q _ _ _ ex (Dt.lst upd_same ((h2.rep _).same ex.st.g))
    · cases e
  · cases e
/-! #### comparisons -/
def ltD : D → D → Option D
  | .int a, .int b => some (.bl (decide (a < b)))
  | _, _ => none
def leD : D → D → Option D
  | .int a, .int b => some (.bl (decide (a ≤ b)))
  | _, _ => none
def gtD : D → D → Option D
  | .int a, .int b => some (.bl (decide (b < a)))
  | _, _ => none
def geD : D → D → Option D
  | .int a, .int b => some (.bl (decide (b ≤ a)))
  | _, _ => none
theorem so_gt : So2 Γ .full (rI0 fun i j => .bl (decide (j < i))) gtD := so_bool0 fun a b z h => by
  unfold gtD at h
  split at h
  · exact ⟨_, _, rfl, rfl, (Option.some.inj h).symm⟩
  · cases h
def isN : D → Bool
  | .non => true
  | _ => false
def isD : D → D → Option D
  | d, .non => some (.bl (isN d))
  | _, _ => none
def isntD : D → D → Option D
  | d, .non => some (.bl (!isN d))
  | _, _ => none
mutual
def D.py : D → Option PyData
  | .non => some .none
  | .bl b => some (.bool b)
  | .int i => some (.int i)
  | .str s => some (.str s)
  | .tup ds => (D.pys ds).map .tuple
  | .lst ds => (D.pys ds).map .list
  | .slst ns => some (.list (ns.map .int))
  | _ => none
def D.pys : List D → Option (List PyData)
  | [] => some []
  | d :: ds => (D.py d).bind fun p => (D.pys ds).map (p :: ·)
end
theorem dpAll_ints {H : Hp} : ∀ ns : List Int, DpAll Γ.K H (ns.map V.int) (ns.map PyData.int)
  | [] => .nil
  | n :: ns => .cons (.int n) (dpAll_ints ns)
mutual
theorem py_dt {H : Hp} : ∀ {d : D} {v : V} {p : PyData}, Dt Γ H v d → D.py d = some p → Dp Γ.K H v p
  | .non, _, _, h, e => by cases h; cases e; exact .non
  | .bl b, _, _, h, e => by cases h; cases e; exact .bl b
  | .int b, _, _, h, e => by cases h; cases e; exact .int b
  | .str b, _, _, h, e => by cases h; cases e; exact .str b
  | .tup ds, _, _, h, e => by
    obtain ⟨ps, e1, rfl⟩ := Option.map_eq_some_iff.mp e
    cases h with
    | tup h r => exact .tup (SqT.of h) (pys_dt r e1)
  | .lst ds, _, _, h, e => by
    obtain ⟨ps, e1, rfl⟩ := Option.map_eq_some_iff.mp e
    cases h with
    | lst h r => exact .lst (SqL.of h) (pys_dt r e1)
  | .slst ns, _, _, h, e => by
    cases e
    cases h with
    | slst h => exact .lst h (dpAll_ints ns)
  | .ty _, _, _, _, e => by cases e
  | .cls _, _, _, _, e => by cases e
  | .dic _, _, _, _, e => by cases e
  | .dit _, _, _, _, e => by cases e
  | .dii _, _, _, _, e => by cases e
  | .ins _ _, _, _, _, e => by cases e
  | .exc _ _, _, _, _, e => by cases e
theorem pys_dt {H : Hp} : ∀ {ds : List D} {vs : List V} {ps : List PyData}, Dts Γ H vs ds → D.pys ds = some ps → DpAll Γ.K H vs ps
  | [], _, _, h, e => by cases h; cases e; exact .nil
  | d :: ds, _, _, h, e => by
    obtain ⟨p, e1, e2⟩ := Option.bind_eq_some_iff.mp e
    obtain ⟨ps, e3, rfl⟩ := Option.map_eq_some_iff.mp e2
    cases h with
    | cons h r => exact .cons (py_dt h e1) (pys_dt r e3)
end
theorem py_root {H G : Hp} {d : D} {v : V} {p : PyData} (s : Same G H) (h : RM Γ .root H H G v d) (e : D.py d = some p) : Dp Γ.K H v p := by
  rcases h with h | ⟨a, o, rfl, q, h⟩
  · exact py_dt (h.same s) e
  · cases h with
    | lst r =>
      obtain ⟨ps, e1, rfl⟩ := Option.map_eq_some_iff.mp (show (D.pys _).map PyData.list = some p from e)
      exact .lst (SqL.of q) (pys_dt (r.same s) e1)
    | ins r => cases e
    | dK r => cases e
    | dT r => cases e
    | dI r => cases e
/-- == of data -/
def eqB (a b : D) : Option Bool := match a, b with
  | .int i, .int j => some (decide (i = j))
  | .str i, .str j => some (decide (i = j))
  | .bl i, .bl j => some (decide (i = j))
  | a, b => match D.py a, D.py b with
    | some p, some q => if SeqAt.shaped p = true ∧ SeqAt.shaped q = true then some (PyData.eqv p q) else none
    | _, _ => none
def eqD (a b : D) : Option D := (eqB a b).map .bl
def neD (a b : D) : Option D := (eqB a b).map fun c => .bl (!c)
def rEqK (K : PySem.W.Frag) : R2 := fun x y H Q => rEq x y H Q ∨ rEqD K x y H Q
def rNeK (K : PySem.W.Frag) : R2 := fun x y H Q => rNe x y H Q ∨ rNeD K x y H Q
theorem o_eq {K : PySem.W.Frag} (hu : X.A.units + 64 < cLine) (hK : X.K = K := by rfl) : OpR X (compareOp .Eq) (rEqK K) := by
  subst hK
  exact op_eq.or (op_eqD hu)
theorem o_ne {K : PySem.W.Frag} (hu : X.A.units + 64 < cLine) (hK : X.K = K := by rfl) : OpR X (compareOp .NotEq) (rNeK K) := by
  subst hK
  exact op_ne.or (op_neD hu)
theorem eqB_cases {H G : Hp} {x y : V} {a b : D} {c : Bool} (s : Same G H) (ha : RM Γ .root H H G x a) (hb : RM Γ .root H H G y b) (e : eqB a b = some c) :
    (scal x y = true ∧ decide (x = y) = c) ∨ ∃ p q, Dp Γ.K H x p ∧ Dp Γ.K H y q ∧ SeqAt.shaped p = true ∧ SeqAt.shaped q = true ∧ PyData.eqv p q = c := by
  have gen : (match D.py a, D.py b with
    | some p, some q => if SeqAt.shaped p = true ∧ SeqAt.shaped q = true then some (PyData.eqv p q) else none
    | _, _ => none) = some c → ∃ p q, Dp Γ.K H x p ∧ Dp Γ.K H y q ∧ SeqAt.shaped p = true ∧ SeqAt.shaped q = true ∧ PyData.eqv p q = c := by
    intro e
    split at e
    · rename_i p q hp hq
      split at e
      · rename_i hc
        exact ⟨p, q, py_root s ha hp, py_root s hb hq, hc.1, hc.2, Option.some.inj e⟩
      · cases e
    · cases e
  unfold eqB at e
  split at e
  · cases e
    cases root_int ha
    cases root_int hb
    refine .inl ⟨rfl, ?_⟩
    exact decide_eq_decide.mpr ⟨fun z => V.int.inj z, fun z => congrArg _ z⟩
  · cases e
    cases root_str ha
    cases root_str hb
    exact .inl ⟨rfl, decide_eq_decide.mpr ⟨fun z => V.str.inj z, fun z => congrArg _ z⟩⟩
  · cases e
    cases root_bl ha
    cases root_bl hb
    exact .inl ⟨rfl, decide_eq_decide.mpr ⟨fun z => V.bl.inj z, fun z => congrArg _ z⟩⟩
  · exact .inr (gen e)
theorem so_eq : So2 Γ .full (rEqK Γ.K) eqD := fun H G x y a b z Q s ha hb e q => by
  obtain ⟨c, e1, rfl⟩ := Option.map_eq_some_iff.mp e
  have qe := q _ H G (Ext.refl s) (.bl c)
  rcases eqB_cases s ha hb e1 with ⟨h1, h2⟩ | ⟨p, q', h1, h2, h3, h4, h5⟩
  · exact .inl ⟨h1, by rw [h2]; exact qe⟩
  · exact .inr ⟨p, q', h1, h2, h3, h4, by rw [h5]; exact qe⟩
theorem so_ne : So2 Γ .full (rNeK Γ.K) neD := fun H G x y a b z Q s ha hb e q => by
  obtain ⟨c, e1, rfl⟩ := Option.map_eq_some_iff.mp e
  have qe := q _ H G (Ext.refl s) (.bl (!c))
  rcases eqB_cases s ha hb e1 with ⟨h1, h2⟩ | ⟨p, q', h1, h2, h3, h4, h5⟩
  · exact .inl ⟨h1, by rw [h2]; exact qe⟩
  · exact .inr ⟨p, q', h1, h2, h3, h4, by rw [h5]; exact qe⟩
/-! #### places in lists -/
def ixD : D → D → Option D
  | .tup ds, .int i => atI ds i
  | .lst ds, .int i => atI ds i
  | .slst ns, .int i => (atI ns i).map .int
  | .str s, .int i => if s.length ≤ sizeLine then (atI s.cps.toList i).map fun c => .str ⟨#[c]⟩ else none
  | _, _ => none
theorem Dts.at {H : Hp} {vs : List V} {ds : List D} {i : Int} {z : D} (r : Dts Γ H vs ds) (e : atI ds i = some z) : ∃ v, atI vs i = some v ∧ Dt Γ H v z := by
  unfold atI at e ⊢
  rw [r.len]
  obtain ⟨j, h1, h2⟩ := Option.bind_eq_some_iff.mp e
  obtain ⟨v, h3, h4⟩ := r.get h2
  exact ⟨v, by rw [h1]; exact h3, h4⟩
theorem o_ix {K : PySem.W.Frag} (hK : X.K = K := by rfl) : IxR X (rIx K) := by
  subst hK
  exact ix_seq
theorem atI_map {α β : Type} (f : α → β) (xs : List α) (i : Int) : atI (xs.map f) i = (atI xs i).map f := by
  unfold atI
  rw [List.length_map]
  cases ixN xs.length i with
  | none => rfl
  | some j => exact List.getElem?_map ..
theorem so_ix : So2 Γ .full (rIx Γ.K) ixD := fun H G x y a b z Q s ha hb e q => by
  unfold ixD at e
  split at e
  · obtain ⟨p, vs, rfl, _, h1, h2⟩ := root_tup s ha
    obtain ⟨v, h3, h4⟩ := h2.at e
    exact .inr (.inl ⟨p, vs, _, v, rfl, root_int hb, h1, h3, q v H G (Ext.refl s) h4⟩)
  · obtain ⟨p, vs, rfl, h1, h2⟩ := root_lst s ha
    obtain ⟨v, h3, h4⟩ := h2.at e
    exact .inl ⟨p, vs, _, v, rfl, root_int hb, SqL.of h1, h3, q v H G (Ext.refl s) h4⟩
  · obtain ⟨n, e1, rfl⟩ := Option.map_eq_some_iff.mp e
    obtain ⟨p, vs, rfl, h1, h2⟩ := root_list s ha rfl
    have ev := h2.of_ints
    subst ev
    exact .inl ⟨p, _, _, .int n, rfl, root_int hb, h1, by rw [atI_map, e1]; rfl, q _ H G (Ext.refl s) (.int n)⟩
  · split at e
    · rename_i hc
      obtain ⟨c, e1, rfl⟩ := Option.map_eq_some_iff.mp e
      exact .inr (.inr ⟨_, _, c, root_str ha, root_int hb, hc, e1, q _ H G (Ext.refl s) (.str _)⟩)
    · cases e
  · cases e
/-! #### slices -/
def cutD (xs : List D) (lo hi : Option Int) : List D := (xs.drop (HT.sIx xs.length 0 lo)).take (HT.sIx xs.length xs.length hi - HT.sIx xs.length 0 lo)
theorem Dts.cut {H : Hp} {vs : List V} {ds : List D} (r : Dts Γ H vs ds) (lo hi : Option Int) : Dts Γ H (cutV vs lo hi) (cutD ds lo hi) := by
  unfold cutV cutD
  rw [r.len]
  exact (r.drop _).take _
end
end Mi

set_option Elab.async false
set_option linter.all false
set_option maxRecDepth 100000
set_option maxHeartbeats 4000000
namespace Mi
open PySem PySem.Spec PyProof.Rows L2
/-! ### defs -/
inductive RF | ok (d : D) (ds : List D) | ex (x : D) (ds : List D)
abbrev FnD := List D → Option RF
def TA (pm : List Bool) (vs : List V) (a : Addr) : Prop := ∃ i : Nat, pm[i]? = some true ∧ vs[i]? = some (.ref a)
structure RC (Γ : Ga) (pm : List Bool) (vs : List V) (ds : List D) (H G : Hp) : Prop where
  lv : vs.length = pm.length
  ld : ds.length = pm.length
  dat : ∀ (i : Nat) (v : V) (d : D), pm[i]? = some false → vs[i]? = some v → ds[i]? = some d → Dt Γ G v d
  own : ∀ (i : Nat) (v : V) (d : D), pm[i]? = some true → vs[i]? = some v → ds[i]? = some d → ∃ a o, v = .ref a ∧ H a = some o ∧ G a = none ∧ OwnO Γ G o d
  sep : ∀ (i j : Nat) (a : Addr), pm[i]? = some true → pm[j]? = some true → vs[i]? = some (.ref a) → vs[j]? = some (.ref a) → i = j
structure RP (Γ : Ga) (pm : List Bool) (vs : List V) (ds : List D) (H G : Hp) : Prop where
  ld : ds.length = pm.length
  own : ∀ (i : Nat) (v : V) (d : D), pm[i]? = some true → vs[i]? = some v → ds[i]? = some d → ∃ a o, v = .ref a ∧ H a = some o ∧ G a = none ∧ OwnO Γ G o d
def FinF (Γ : Ga) (pm : List Bool) (rm : Md) (vs : List V) (H G : Hp) (Q : VK) (E : XK) : Option RF → Prop
  | none => False
  | some (.ok d ds') => ∀ v H' G', Same G' H' → Stp (TA pm vs) H G H' G' → RP Γ pm vs ds' H' G' → RM Γ rm H H' G' v d → Q v H'
  | some (.ex x ds') => ∀ c dx H' G', Same G' H' → Stp (TA pm vs) H G H' G' → RP Γ pm vs ds' H' G' → Dx Γ H' G' c dx x → E c dx H'
/-- the promise that a def is worth its mirror -/
def spM (Γ : Ga) (pm : List Bool) (rm : Md) (F : FnD) : Sp := fun vs H Q E => ∃ G ds, Same G H ∧ RC Γ pm vs ds H G ∧ FinF Γ pm rm vs H G Q E (F ds)
def outs : List Bool → List D → Env → List D
  | true :: pm, d :: ds, x :: ρ => x.getD d :: outs pm ds ρ
  | _ :: pm, d :: ds, _ :: ρ => d :: outs pm ds ρ
  | _, ds, _ => ds
def runF (pm : List Bool) (fall : Bool) (n : Nat) (body : SM) : FnD := fun ds => match body (ds.map some ++ List.replicate (n - ds.length) none) with
  | some (.nx ρ) => if fall then some (.ok .non (outs pm ds ρ)) else none
  | some (.rt d ρ) => some (.ok d (outs pm ds ρ))
  | some (.ex x ρ) => some (.ex x (outs pm ds ρ))
  | _ => none
def cellsAt (k : Nat) : List Bool → List Nat
  | [] => []
  | true :: pm => k :: cellsAt (k + 1) pm
  | false :: pm => cellsAt (k + 1) pm
theorem mem_cellsAt : ∀ {pm : List Bool} {k i : Nat}, i ∈ cellsAt k pm ↔ ∃ j, i = k + j ∧ pm[j]? = some true
  | [], k, i => by simp [cellsAt]
  | true :: pm, k, i => by
    unfold cellsAt
    rw [List.mem_cons, mem_cellsAt]
    constructor
    · rintro (h | ⟨j, h1, h2⟩)
      · exact ⟨0, by omega, rfl⟩
      · exact ⟨j + 1, by omega, by simpa using h2⟩
    · rintro ⟨j, h1, h2⟩
      cases j with
      | zero => exact .inl (by omega)
      | succ j => exact .inr ⟨j, by omega, by simpa using h2⟩
  | false :: pm, k, i => by
    unfold cellsAt
    rw [mem_cellsAt]
    constructor
    · rintro ⟨j, h1, h2⟩
      exact ⟨j + 1, by omega, by simpa using h2⟩
    · rintro ⟨j, h1, h2⟩
      cases j with
      | zero => simp at h2
      | succ j => exact ⟨j, by omega, by simpa using h2⟩
theorem outs_len : ∀ (pm : List Bool) (ds : List D) (ρ : Env), (outs pm ds ρ).length = ds.length
  | [], ds, ρ => by cases ds <;> rfl
  | true :: pm, [], ρ => rfl
  | true :: pm, d :: ds, [] => rfl
  | true :: pm, d :: ds, x :: ρ => congrArg (· + 1) (outs_len pm ds ρ)
  | false :: pm, [], ρ => rfl
  | false :: pm, d :: ds, [] => rfl
  | false :: pm, d :: ds, x :: ρ => congrArg (· + 1) (outs_len pm ds ρ)
theorem outs_get : ∀ {pm : List Bool} {ds : List D} {ρ : Env} {i : Nat} {d e : D}, pm[i]? = some true → ρ[i]? = some (some e) → (outs pm ds ρ)[i]? = some d → d = e
  | [], _, _, _, _, _, h, _, _ => by simp at h
  | b :: pm, [], ρ, i, d, e, h, h2, h3 => by cases b <;> simp [outs] at h3
  | b :: pm, _ :: _, [], i, d, e, h, h2, h3 => by simp at h2
  | true :: pm, d0 :: ds, x :: ρ, 0, d, e, h, h2, h3 => by
    simp at h2
    subst h2
    simp [outs] at h3
    exact h3.symm
  | false :: pm, d0 :: ds, x :: ρ, 0, d, e, h, h2, h3 => by simp at h
  | true :: pm, d0 :: ds, x :: ρ, i + 1, d, e, h, h2, h3 => outs_get (pm := pm) (ds := ds) (ρ := ρ) (i := i) (by simpa using h) (by simpa using h2) (by simpa [outs] using h3)
  | false :: pm, d0 :: ds, x :: ρ, i + 1, d, e, h, h2, h3 => outs_get (pm := pm) (ds := ds) (ρ := ρ) (i := i) (by simpa using h) (by simpa using h2) (by simpa [outs] using h3)
section
variable {Γ : Ga} {pm : List Bool} {rm : Md} {F : FnD} {vs : List V} {ds : List D} {H G : Hp} {Q : VK} {E : XK}
theorem spM.len (h : spM Γ pm rm F vs H Q E) : vs.length = pm.length := let ⟨_, _, _, rc, _⟩ := h; rc.lv
theorem start_get {N : List Str} {vs : List V} {i : Nat} {v : V} (h : vs[i]? = some v) : (L2.start N vs)[i]? = some (some v) := by
  unfold L2.start
  have hl := (List.getElem?_eq_some_iff.mp h).1
  rw [List.getElem?_append_left (by rw [List.length_map]; exact hl), List.getElem?_map, h]
  rfl
theorem start_some {N : List Str} {vs : List V} {i : Nat} {v : V} (h : (L2.start N vs)[i]? = some (some v)) : vs[i]? = some v := by
  unfold L2.start at h
  by_cases hl : i < vs.length
  · rw [List.getElem?_append_left (by rw [List.length_map]; exact hl), List.getElem?_map] at h
    cases e : vs[i]? with
    | none => rw [e] at h; cases h
    | some u => rw [e] at h; exact Option.some.inj h
  · rw [List.getElem?_append_right (by rw [List.length_map]; omega), List.getElem?_replicate] at h
    split at h <;> cases h
theorem TA_T {N : List Str} {cs : List Nat} (hc : cellsAt 0 pm = cs) {a : Addr} : T cs (L2.start N vs) a ↔ TA pm vs a := by
  subst hc
  constructor
  · rintro ⟨i, hi, h⟩
    obtain ⟨j, h1, h2⟩ := mem_cellsAt.mp hi
    have e : i = j := by omega
    subst e
    exact ⟨i, h2, start_some h⟩
  · rintro ⟨i, h1, h2⟩
    exact ⟨i, mem_cellsAt.mpr ⟨i, by omega, h1⟩, start_get h2⟩
theorem rep_start {N : List Str} {cs : List Nat} {n : Nat} (hc : cellsAt 0 pm = cs) (hn : N.length = n) (s : Same G H) (rc : RC Γ pm vs ds H G) (hv : vs.length ≤ n) : Rep Γ cs (L2.start N vs) H G (ds.map some ++ List.replicate (n - ds.length) none) := by
  have e : ds.length = vs.length := rc.ld.trans rc.lv.symm
  have get : ∀ (i : Nat) (d : D), (ds.map some ++ List.replicate (n - ds.length) none)[i]? = some (some d) → ds[i]? = some d := fun i d h => by
    by_cases hl : i < ds.length
    · rw [List.getElem?_append_left (by rw [List.length_map]; exact hl), List.getElem?_map] at h
      cases e : ds[i]? with
      | none => rw [e] at h; cases h
      | some u => rw [e] at h; exact Option.some.inj h
    · rw [List.getElem?_append_right (by rw [List.length_map]; omega), List.getElem?_replicate] at h
      split at h <;> cases h
  have vget : ∀ (i : Nat) (d : D), ds[i]? = some d → ∃ v, vs[i]? = some v := fun i d h => by
    have hl := (List.getElem?_eq_some_iff.mp h).1
    exact ⟨vs[i]'(by omega), List.getElem?_eq_getElem (by omega)⟩
  have bget : ∀ (i : Nat) (d : D), ds[i]? = some d → pm[i]? = some true ∨ pm[i]? = some false := fun i d h => by
    have hl := (List.getElem?_eq_some_iff.mp h).1
    have hl2 := rc.ld
    rw [List.getElem?_eq_getElem (by omega)]
    cases pm[i]'(by omega)
    · exact .inr rfl
    · exact .inl rfl
  refine ⟨?_, s, fun i h => ?_, fun i d hi h => ?_, fun i d hi h => ?_, fun i j a hi hj h1 h2 => ?_⟩
  · unfold L2.start
    simp only [List.length_append, List.length_map, List.length_replicate]
    omega
  · unfold L2.start
    by_cases hl : i < ds.length
    · rw [List.getElem?_append_left (by rw [List.length_map]; exact hl), List.getElem?_map, List.getElem?_eq_getElem hl] at h
      cases h
    · rw [List.getElem?_append_right (by rw [List.length_map]; omega), List.getElem?_replicate, List.length_map] at h ⊢
      rw [hn, ← e]
      split at h
      · rename_i hc
        rw [if_pos hc]
      · cases h
  · have hd := get i d h
    obtain ⟨v, hv'⟩ := vget i d hd
    have hp : pm[i]? = some false := (bget i d hd).elim (fun z => absurd (by rw [← hc]; exact mem_cellsAt.mpr ⟨i, by omega, z⟩) hi) id
    exact ⟨v, start_get hv', rc.dat i v d hp hv' hd⟩
  · have hd := get i d h
    obtain ⟨v, hv'⟩ := vget i d hd
    rw [← hc] at hi
    obtain ⟨j, q1, q2⟩ := mem_cellsAt.mp hi
    have ej : i = j := by omega
    subst ej
    obtain ⟨a, o, rfl, r⟩ := rc.own i v d q2 hv' hd
    exact ⟨a, o, start_get hv', r⟩
  · rw [← hc] at hi hj
    obtain ⟨i', q1, q2⟩ := mem_cellsAt.mp hi
    obtain ⟨j', q3, q4⟩ := mem_cellsAt.mp hj
    have e1 : i = i' := by omega
    have e2 : j = j' := by omega
    subst e1 e2
    exact rc.sep i j a q2 q4 (start_some h1) (start_some h2)
/-- the cells that came, at the end -/
theorem rp_end {N : List Str} {cs c' : List Nat} {σ' : L2.St} {H' G' : Hp} {ρ' : Env} (hc : cellsAt 0 pm = cs) (hcc : ∀ i ∈ cs, i ∈ c') (rc : RC Γ pm vs ds H G) (rep : Rep Γ c' σ' H' G' ρ') (hf : ∀ i ∈ cs, σ'[i]? = (L2.start N vs)[i]?) : RP Γ pm vs (outs pm ds ρ') H' G' := by
  refine ⟨by rw [outs_len, rc.ld], fun i v d hp hv hd => ?_⟩
  have hi : i ∈ cs := by rw [← hc]; exact mem_cellsAt.mpr ⟨i, by omega, hp⟩
  have hs := (hf i hi).trans (start_get hv)
  obtain ⟨e, a, o, h1, h2, h3, h4, h5⟩ := rep.cell (hcc i hi) hs
  have ed := outs_get hp h2 hd
  subst ed
  exact ⟨a, o, h1, h3, h4, h5⟩
/-- a def's body -/
theorem fn_body {N : List Str} {cs c' : List Nat} {n : Nat} {body : SM} {fall : Bool} (h : spM Γ pm rm (runF pm fall n body) vs H Q E) (hc : cellsAt 0 pm = cs) (hn : N.length = n) (hl : pm.length ≤ n) (hfall : fall = true → rm = .full ∧ ∀ i ∈ cs, i ∈ c') :
    tS Γ (fxOf cs rm E) cs c' body { nx := fun _ H' => Q .non H', rt := Q } (L2.start N vs) H := by
  obtain ⟨G, ds, s, rc, fin⟩ := h
  refine ⟨G, _, rep_start hc hn s rc (by rw [rc.lv]; exact hl), ?_⟩
  unfold runF at fin
  have st : ∀ {H' G' : Hp} {σ' : L2.St} {c1 : List Nat}, StS cs cs c1 (L2.start N vs) H G σ' H' G' → Stp (TA pm vs) H G H' G' := fun q => q.st.mono fun a z => (TA_T hc).mp z
  generalize body (ds.map some ++ List.replicate (n - ds.length) none) = r at fin ⊢
  rcases r with _ | ⟨ρ'⟩ | ⟨d, ρ'⟩ | ⟨ρ'⟩ | ⟨ρ'⟩ | ⟨x, ρ'⟩
  · exact fin
  · dsimp only at fin
    cases fall with
    | false => exact fin.elim
    | true =>
      obtain ⟨hr, hcc⟩ := hfall rfl
      subst hr
      exact fun σ' H' G' rep q => fin .non H' G' rep.sub (st q) (rp_end hc hcc rc rep q.fix) Dt.non
  · exact fun v σ' H' G' rep q rm' => fin v H' G' rep.sub (st q) (rp_end hc (fun _ h => h) rc rep q.fix) rm'
  · exact fin.elim
  · exact fin.elim
  · exact fun c dx σ' H' G' rep q e => fin c dx H' G' rep.sub (st q) (rp_end hc (fun _ h => h) rc rep q.fix) e
end
/-! ### calls -/
def argD : List Kd → List D → Env → List D
  | .cel i :: ks, _ :: ds, ρ => ((ρ[i]?).join.getD .non) :: argD ks ds ρ
  | _ :: ks, d :: ds, ρ => d :: argD ks ds ρ
  | _, _, _ => []
def putC : List Kd → List D → Env → Env
  | .cel i :: ks, d :: ds, ρ => (putC ks ds ρ).set i (some d)
  | _ :: ks, _ :: ds, ρ => putC ks ds ρ
  | _, _, ρ => ρ
def Kd.ic : Kd → Bool
  | .cel _ => true
  | _ => false
def pmOf (ks : List Kd) : List Bool := ks.map Kd.ic
def celsOf : List Kd → List Nat
  | [] => []
  | .cel i :: ks => i :: celsOf ks
  | _ :: ks => celsOf ks
def callR (ks : List Kd) (r : Option RF) (ρ : Env) : Option R := match r with
  | none => none
  | some (.ok d ds') => some (.ok d (putC ks ds' ρ))
  | some (.ex x ds') => some (.ex x (putC ks ds' ρ))
@[simp] theorem callR_ok {ks : List Kd} {d : D} {ds' : List D} {ρ : Env} : callR ks (some (.ok d ds')) ρ = some (.ok d (putC ks ds' ρ)) := rfl
@[simp] theorem callR_ex {ks : List Kd} {d : D} {ds' : List D} {ρ : Env} : callR ks (some (.ex d ds')) ρ = some (.ex d (putC ks ds' ρ)) := rfl
def eCall (F : FnD) (ks : List Kd) (g : EA) : E := fun ρ => aBind (g ρ) fun ds ρ1 => callR ks (F (argD ks ds ρ1)) ρ1
section
variable {Γ : Ga} {cs ts : List Nat} {W : WX} {m : Md} {σ : L2.St} {H G H1 G1 H0 : Hp} {ρ : Env} {Q : VK} {f : E} {g : EA} {X : Cx} {e : Expr} {es : List Expr} {ks : List Kd} {F : FnD} {E0 : XK}
theorem putC_len : ∀ (ks : List Kd) (ds : List D) (ρ : Env), (putC ks ds ρ).length = ρ.length
  | [], _, _ => rfl
  | .cel i :: ks, [], ρ => rfl
  | .cel i :: ks, d :: ds, ρ => by unfold putC; rw [List.length_set]; exact putC_len ks ds ρ
  | .full :: ks, [], ρ => rfl
  | .full :: ks, d :: ds, ρ => putC_len ks ds ρ
  | .own :: ks, [], ρ => rfl
  | .own :: ks, d :: ds, ρ => putC_len ks ds ρ
  | .root :: ks, [], ρ => rfl
  | .root :: ks, d :: ds, ρ => putC_len ks ds ρ
theorem putC_out : ∀ {ks : List Kd} {ds : List D} {ρ : Env} {i : Nat}, i ∉ celsOf ks → (putC ks ds ρ)[i]? = ρ[i]?
  | [], _, _, _, _ => rfl
  | .cel j :: ks, [], ρ, i, _ => rfl
  | .cel j :: ks, d :: ds, ρ, i, h => by
    unfold celsOf at h
    unfold putC
    rw [List.getElem?_set_ne (fun z => h (by rw [z]; exact List.mem_cons_self))]
    exact putC_out fun z => h (List.mem_cons_of_mem _ z)
  | .full :: ks, [], ρ, _, _ => rfl
  | .full :: ks, d :: ds, ρ, _, h => putC_out (ks := ks) h
  | .own :: ks, [], ρ, _, _ => rfl
  | .own :: ks, d :: ds, ρ, _, h => putC_out (ks := ks) h
  | .root :: ks, [], ρ, _, _ => rfl
  | .root :: ks, d :: ds, ρ, _, h => putC_out (ks := ks) h
theorem putC_in : ∀ {ks : List Kd} {ds : List D} {ρ : Env} {i j : Nat} {d : D}, (celsOf ks).Nodup → ks[j]? = some (.cel i) → ds[j]? = some d → i < ρ.length → (putC ks ds ρ)[i]? = some (some d)
  | [], _, _, _, _, _, _, h, _, _ => by simp at h
  | _ :: _, [], _, _, _, _, _, _, h, _ => by simp at h
  | .cel k :: ks, d0 :: ds, ρ, i, 0, d, nd, h, h2, hl => by
    simp at h h2
    subst h h2
    unfold putC
    rw [List.getElem?_set_self (by rw [putC_len]; exact hl)]
  | .cel k :: ks, d0 :: ds, ρ, i, j + 1, d, nd, h, h2, hl => by
    have h' : ks[j]? = some (.cel i) := by simpa using h
    unfold celsOf at nd
    have hm : i ∈ celsOf ks := by
      clear h2 hl nd
      have : ∀ {ks : List Kd} {j : Nat}, ks[j]? = some (.cel i) → i ∈ celsOf ks := by
        intro ks
        induction ks with
        | nil => intro j h; simp at h
        | cons k ks ih =>
          intro j h
          cases j with
          | zero => simp at h; subst h; exact List.mem_cons_self
          | succ j =>
            have := ih (by simpa using h)
            cases k <;> first | exact List.mem_cons_of_mem _ this | exact this
      exact this h'
    unfold putC
    rw [List.getElem?_set_ne (fun z => (List.nodup_cons.mp nd).1 (by rw [z]; exact hm))]
    exact putC_in (List.nodup_cons.mp nd).2 h' (by simpa using h2) hl
  | .full :: ks, d0 :: ds, ρ, i, 0, d, nd, h, h2, hl => by simp at h
  | .full :: ks, d0 :: ds, ρ, i, j + 1, d, nd, h, h2, hl => putC_in (ks := ks) nd (by simpa using h) (by simpa using h2) hl
  | .own :: ks, d0 :: ds, ρ, i, 0, d, nd, h, h2, hl => by simp at h
  | .own :: ks, d0 :: ds, ρ, i, j + 1, d, nd, h, h2, hl => putC_in (ks := ks) nd (by simpa using h) (by simpa using h2) hl
  | .root :: ks, d0 :: ds, ρ, i, 0, d, nd, h, h2, hl => by simp at h
  | .root :: ks, d0 :: ds, ρ, i, j + 1, d, nd, h, h2, hl => putC_in (ks := ks) nd (by simpa using h) (by simpa using h2) hl
theorem RKs.lend : ∀ {ks : List Kd} {vs : List V} {ds : List D}, RKs Γ σ H0 H G ks vs ds → ds.length = ks.length
  | [], [], [], _ => rfl
  | k :: ks, _ :: _, _ :: _, h => congrArg (· + 1) h.2.2.lend
  | [], [], _ :: _, h => h.elim
  | [], _ :: _, _, h => h.elim
  | _ :: _, [], _, h => h.elim
  | _ :: _, _ :: _, [], h => h.elim
theorem RKs.at : ∀ {ks : List Kd} {vs : List V} {ds : List D} {i : Nat} {k : Kd} {v : V} {d : D}, RKs Γ σ H0 H G ks vs ds → ks[i]? = some k → vs[i]? = some v → ds[i]? = some d → RK Γ σ H0 H G k v d
  | [], [], [], _, _, _, _, _, h, _, _ => by simp at h
  | k :: ks, _ :: _, _ :: _, 0, _, _, _, r, h, h2, h3 => by
    simp at h h2 h3
    subst h h2 h3
    exact r.1
  | k :: ks, _ :: _, _ :: _, i + 1, _, _, _, r, h, h2, h3 => r.2.2.at (i := i) (by simpa using h) (by simpa using h2) (by simpa using h3)
  | [], [], _ :: _, _, _, _, _, h, _, _, _ => h.elim
  | [], _ :: _, _, _, _, _, _, h, _, _, _ => h.elim
  | _ :: _, [], _, _, _, _, _, h, _, _, _ => h.elim
  | _ :: _, _ :: _, [], _, _, _, _, h, _, _, _ => h.elim
theorem argD_len : ∀ (ks : List Kd) (ds : List D) (ρ : Env), ds.length = ks.length → (argD ks ds ρ).length = ks.length
  | [], [], _, _ => rfl
  | [], _ :: _, _, h => by simp at h
  | _ :: _, [], _, h => by simp at h
  | .cel i :: ks, d :: ds, ρ, h => congrArg (· + 1) (argD_len ks ds ρ (by simpa using h))
  | .full :: ks, d :: ds, ρ, h => congrArg (· + 1) (argD_len ks ds ρ (by simpa using h))
  | .own :: ks, d :: ds, ρ, h => congrArg (· + 1) (argD_len ks ds ρ (by simpa using h))
  | .root :: ks, d :: ds, ρ, h => congrArg (· + 1) (argD_len ks ds ρ (by simpa using h))
theorem argD_at : ∀ {ks : List Kd} {ds : List D} {ρ : Env} {i : Nat} {d : D}, (argD ks ds ρ)[i]? = some d → ∃ k, ks[i]? = some k ∧ ((∃ j, k = .cel j ∧ d = (ρ[j]?).join.getD .non) ∨ (k.ic = false ∧ ds[i]? = some d))
  | [], [], _, _, _, h => by simp [argD] at h
  | [], _ :: _, _, _, _, h => by simp [argD] at h
  | .cel j :: ks, [], _, _, _, h => by simp [argD] at h
  | .full :: ks, [], _, _, _, h => by simp [argD] at h
  | .own :: ks, [], _, _, _, h => by simp [argD] at h
  | .root :: ks, [], _, _, _, h => by simp [argD] at h
  | .cel j :: ks, d0 :: ds, ρ, 0, d, h => ⟨_, rfl, .inl ⟨j, rfl, by simp [argD] at h; exact h.symm⟩⟩
  | .full :: ks, d0 :: ds, ρ, 0, d, h => ⟨_, rfl, .inr ⟨rfl, by simpa [argD] using h⟩⟩
  | .own :: ks, d0 :: ds, ρ, 0, d, h => ⟨_, rfl, .inr ⟨rfl, by simpa [argD] using h⟩⟩
  | .root :: ks, d0 :: ds, ρ, 0, d, h => ⟨_, rfl, .inr ⟨rfl, by simpa [argD] using h⟩⟩
  | .cel j :: ks, d0 :: ds, ρ, i + 1, d, h => by
    obtain ⟨k, h1, h2⟩ := argD_at (ks := ks) (ds := ds) (ρ := ρ) (i := i) (d := d) (by simpa [argD] using h)
    exact ⟨k, by simpa using h1, by simpa using h2⟩
  | .full :: ks, d0 :: ds, ρ, i + 1, d, h => by
    obtain ⟨k, h1, h2⟩ := argD_at (ks := ks) (ds := ds) (ρ := ρ) (i := i) (d := d) (by simpa [argD] using h)
    exact ⟨k, by simpa using h1, by simpa using h2⟩
  | .own :: ks, d0 :: ds, ρ, i + 1, d, h => by
    obtain ⟨k, h1, h2⟩ := argD_at (ks := ks) (ds := ds) (ρ := ρ) (i := i) (d := d) (by simpa [argD] using h)
    exact ⟨k, by simpa using h1, by simpa using h2⟩
  | .root :: ks, d0 :: ds, ρ, i + 1, d, h => by
    obtain ⟨k, h1, h2⟩ := argD_at (ks := ks) (ds := ds) (ρ := ρ) (i := i) (d := d) (by simpa [argD] using h)
    exact ⟨k, by simpa using h1, by simpa using h2⟩
theorem celsOf_at : ∀ {ks : List Kd} {j i : Nat}, ks[j]? = some (.cel i) → i ∈ celsOf ks
  | [], _, _, h => by simp at h
  | k :: ks, 0, i, h => by
    simp at h
    subst h
    exact List.mem_cons_self
  | k :: ks, j + 1, i, h => by
    have := celsOf_at (ks := ks) (j := j) (i := i) (by simpa using h)
    cases k <;> first | exact List.mem_cons_of_mem _ this | exact this
theorem celsOf_mem : ∀ {ks : List Kd} {i : Nat}, i ∈ celsOf ks → ∃ j : Nat, ks[j]? = some (.cel i)
  | [], _, h => absurd h List.not_mem_nil
  | .cel k :: ks, i, h => by
    unfold celsOf at h
    rcases List.mem_cons.mp h with e | h
    · exact ⟨0, by rw [e]; rfl⟩
    · obtain ⟨j, hj⟩ := celsOf_mem h
      exact ⟨j + 1, by simpa using hj⟩
  | .full :: ks, i, h => let ⟨j, hj⟩ := celsOf_mem (ks := ks) h; ⟨j + 1, by simpa using hj⟩
  | .own :: ks, i, h => let ⟨j, hj⟩ := celsOf_mem (ks := ks) h; ⟨j + 1, by simpa using hj⟩
  | .root :: ks, i, h => let ⟨j, hj⟩ := celsOf_mem (ks := ks) h; ⟨j + 1, by simpa using hj⟩
theorem nodup_cels : ∀ {ks : List Kd} {i j k : Nat}, (celsOf ks).Nodup → ks[i]? = some (.cel k) → ks[j]? = some (.cel k) → i = j
  | [], _, _, _, _, h, _ => by simp at h
  | .cel c :: ks, 0, 0, _, _, _, _ => rfl
  | .cel c :: ks, 0, j + 1, k, nd, h, h2 => by
    simp at h
    subst h
    exact absurd (celsOf_at (ks := ks) (by simpa using h2)) (List.nodup_cons.mp nd).1
  | .cel c :: ks, i + 1, 0, k, nd, h, h2 => by
    simp at h2
    subst h2
    exact absurd (celsOf_at (ks := ks) (by simpa using h)) (List.nodup_cons.mp nd).1
  | .cel c :: ks, i + 1, j + 1, k, nd, h, h2 => congrArg (· + 1) (nodup_cels (ks := ks) (List.nodup_cons.mp nd).2 (by simpa using h) (by simpa using h2))
  | .full :: ks, 0, _, _, _, h, _ => by simp at h
  | .full :: ks, i + 1, 0, _, _, _, h => by simp at h
  | .full :: ks, i + 1, j + 1, k, nd, h, h2 => congrArg (· + 1) (nodup_cels (ks := ks) nd (by simpa using h) (by simpa using h2))
  | .own :: ks, 0, _, _, _, h, _ => by simp at h
  | .own :: ks, i + 1, 0, _, _, _, h => by simp at h
  | .own :: ks, i + 1, j + 1, k, nd, h, h2 => congrArg (· + 1) (nodup_cels (ks := ks) nd (by simpa using h) (by simpa using h2))
  | .root :: ks, 0, _, _, _, h, _ => by simp at h
  | .root :: ks, i + 1, 0, _, _, _, h => by simp at h
  | .root :: ks, i + 1, j + 1, k, nd, h, h2 => congrArg (· + 1) (nodup_cels (ks := ks) nd (by simpa using h) (by simpa using h2))
def Kd.fc : Kd → Bool
  | .full => true
  | .cel _ => true
  | _ => false
/-- at a call: the def's promise from the mirror -/
theorem call_core {vs : List V} {ds : List D} {ρ1 : Env} {r0 : List V} {d0 : List D} {pm0 : List Bool} (rep1 : Rep Γ cs σ H1 G1 ρ1) (rk : RKs Γ σ H H1 G1 ks vs ds) (hk : ∀ k ∈ ks, k.fc = true) (nd : (celsOf ks).Nodup) (hts : ∀ i ∈ celsOf ks, i ∈ ts) (hcs : ∀ i ∈ ts, i ∈ cs)
    (fin : Fin Γ cs ts W m σ H1 G1 Q (callR ks (F (argD ks ds ρ1)) ρ1)) (hE : ∀ c dx H', W c dx σ H' → E0 c dx H') : spM Γ (pmOf ks) m F vs H1 Q E0 := by
  have lv := rk.len
  have ld := rk.lend
  have icOf : ∀ {i : Nat} {b : Bool}, (pmOf ks)[i]? = some b → ∃ k, ks[i]? = some k ∧ k.ic = b := fun {i b} h => by
    unfold pmOf at h
    rw [List.getElem?_map] at h
    cases e : ks[i]? with
    | none => rw [e] at h; cases h
    | some k => rw [e] at h; exact ⟨k, rfl, Option.some.inj h⟩
  have celOf : ∀ {i : Nat}, (pmOf ks)[i]? = some true → ∃ j, ks[i]? = some (.cel j) := fun {i} h => by
    obtain ⟨k, h1, h2⟩ := icOf h
    cases k with
    | cel j => exact ⟨j, h1⟩
    | _ => cases h2
  have atC : ∀ {i j : Nat} {v : V}, ks[i]? = some (.cel j) → vs[i]? = some v → σ[j]? = some (some v) := fun {i j v} h1 h2 => by
    have hi := (List.getElem?_eq_some_iff.mp h1).1
    exact rk.at h1 h2 (List.getElem?_eq_getElem (by omega))
  have inC : ∀ {i j : Nat}, ks[i]? = some (.cel j) → j ∈ cs := fun {i j} h => hcs j (hts j (celsOf_at h))
  have TT : ∀ a, TA (pmOf ks) vs a → T ts σ a := fun a ⟨i, h1, h2⟩ => by
    obtain ⟨j, h3⟩ := celOf h1
    exact ⟨j, hts j (celsOf_at h3), atC h3 h2⟩
  have rc : RC Γ (pmOf ks) vs (argD ks ds ρ1) H1 G1 := by
    refine ⟨by unfold pmOf; rw [List.length_map]; exact lv, by unfold pmOf; rw [List.length_map, argD_len _ _ _ ld], fun i v d h1 h2 h3 => ?_, fun i v d h1 h2 h3 => ?_, fun i j a h1 h2 h3 h4 => ?_⟩
    · obtain ⟨k, q1, q2⟩ := icOf h1
      obtain ⟨k', q3, q4⟩ := argD_at h3
      rw [q1] at q3
      cases q3
      rcases q4 with ⟨j, rfl, _⟩ | ⟨_, q5⟩
      · cases q2
      · have r := rk.at q1 h2 q5
        have hf := hk k (List.mem_of_getElem? q1)
        cases k with
        | full => exact r
        | cel j => cases q2
        | own => cases hf
        | root => cases hf
    · obtain ⟨j, q1⟩ := celOf h1
      obtain ⟨k', q3, q4⟩ := argD_at h3
      rw [q1] at q3
      cases q3
      rcases q4 with ⟨j', e, q5⟩ | ⟨q5, _⟩
      · cases e
        obtain ⟨d', a, o, e1, e2, e3, e4, e5⟩ := rep1.cell (inC q1) (atC q1 h2)
        rw [e2] at q5
        subst q5
        exact ⟨a, o, e1, e3, e4, e5⟩
      · cases q5
    · obtain ⟨i', q1⟩ := celOf h1
      obtain ⟨j', q2⟩ := celOf h2
      have e := rep1.sep i' j' a (inC q1) (inC q2) (atC q1 h3) (atC q2 h4)
      subst e
      exact nodup_cels nd q1 q2
  have back : ∀ {H' G' : Hp} {ds' : List D}, Same G' H' → Stp (TA (pmOf ks) vs) H1 G1 H' G' → RP Γ (pmOf ks) vs ds' H' G' → Rep Γ cs σ H' G' (putC ks ds' ρ1) := fun {H' G' ds'} s st rp => by
    have lds : ds'.length = ks.length := by rw [rp.ld]; unfold pmOf; rw [List.length_map]
    refine ⟨by rw [putC_len]; exact rep1.len, s, fun i h => ?_, fun i d hi h => ?_, fun i d hi h => ?_, rep1.sep⟩
    · by_cases hc : i ∈ celsOf ks
      · obtain ⟨j, hj⟩ := celsOf_mem hc
        have hjl := (List.getElem?_eq_some_iff.mp hj).1
        obtain ⟨d', a, o, e1, e2, e3, e4, e5⟩ := rep1.cell (inC hj) (atC hj (List.getElem?_eq_getElem (by omega)))
        rw [putC_in nd hj (List.getElem?_eq_getElem (by omega)) (List.getElem?_eq_some_iff.mp e2).1] at h
        cases h
      · rw [putC_out hc] at h
        exact rep1.un i h
    · have hc : i ∉ celsOf ks := fun z => hi (hcs i (hts i z))
      rw [putC_out hc] at h
      obtain ⟨v, h1, h2⟩ := rep1.dat i d hi h
      exact ⟨v, h1, h2.same st.g⟩
    · by_cases hc : i ∈ celsOf ks
      · obtain ⟨j, hj⟩ := celsOf_mem hc
        have hjl := (List.getElem?_eq_some_iff.mp hj).1
        have hv : vs[j]? = some (vs[j]'(by omega)) := List.getElem?_eq_getElem (by omega)
        have hd : ds'[j]? = some (ds'[j]'(by omega)) := List.getElem?_eq_getElem (by omega)
        have hs := atC hj hv
        obtain ⟨d', a, o, e1, e2, e3, e4, e5⟩ := rep1.cell hi hs
        rw [putC_in nd hj hd (List.getElem?_eq_some_iff.mp e2).1] at h
        cases h
        have hp : (pmOf ks)[j]? = some true := by unfold pmOf; rw [List.getElem?_map, hj]; rfl
        obtain ⟨a', o', q1, q2, q3, q4⟩ := rp.own j _ _ hp hv hd
        rw [q1] at hs
        exact ⟨a', o', hs, q2, q3, q4⟩
      · rw [putC_out hc] at h
        obtain ⟨a, o, h1, h2, h3, h4⟩ := rep1.own i d hi h
        have nT : ¬ TA (pmOf ks) vs a := fun ⟨j, q1, q2⟩ => by
          obtain ⟨j', q3⟩ := celOf q1
          have e := rep1.sep i j' a hi (inC q3) h1 (atC q3 q2)
          subst e
          exact hc (celsOf_at q3)
        exact ⟨a, o, h1, st.h _ _ h2 nT, st.n a h3 (h4.nt h2) nT, h4.same st.g⟩
  refine ⟨G1, _, rep1.sub, rc, ?_⟩
  generalize F (argD ks ds ρ1) = r at fin ⊢
  rcases r with _ | ⟨d, ds'⟩ | ⟨x, ds'⟩
  · exact fin.elim
  · exact fun v H' G' s st rp rm => (show Fin Γ cs ts W m σ H1 G1 Q (some (.ok d (putC ks ds' ρ1))) from fin) v H' G' (back s st rp) (st.mono TT) rm
  · exact fun c dx H' G' s st rp q => hE _ _ _ ((show Fin Γ cs ts W m σ H1 G1 Q (some (.ex x (putC ks ds' ρ1))) from fin) c dx H' G' (back s st rp) (st.mono TT) q)
abbrev W0 : WX := fun _ _ _ _ => False
/-- .. of a def that raises nothing -/
def spM0 (Γ : Ga) (pm : List Bool) (rm : Md) (F : FnD) : Sp := fun vs H Q _ => spM Γ pm rm F vs H Q L2.E0
section
variable {k : Nat} {fa C : Addr} {fd : FuncData} {ps : List Str} {x : Str} {p pos apos : Pos} {o : Expr} {n : String}
/-- f(..), a def of the law's -/
theorem me_callG (Fn : Lk.FnG X.prog X.w X.K X.mg X.base k fa fd ps (spM0 Γ (pmOf ks) m F)) (hgd : X.A.guards = some []) (hr : Room k X.A) (hg : Gl X x) (hm : X.mg x = some (.ref fa)) (hk : PySem.W.keepIn X.K (.ref fa) = true) (hb : Binds X.K fd ps [])
    (ha : PA X (e :: es) (tA Γ cs ts W0 ks g)) (hfc : ∀ k ∈ ks, k.fc = true := by decide) (nd : (celsOf ks).Nodup := by decide) (hts : ∀ i ∈ celsOf ks, i ∈ ts := by decide) (hcs : ∀ i ∈ ts, i ∈ cs := by first | exact nil_sub | exact all_sub | decide)
    (hdb : (x == ("__debug__" : Str)) = false := by decide) (he : starEach (e :: es) X.env = (false, eval e X.env) :: starEach es X.env := by rfl) (hpl : (backTo pos (starEach es X.env)).any (·.1) = false := by rfl) :
    PE X (.Call (.Name x p) (e :: es) [] pos) (tE Γ cs ts W0 m (eCall F ks g)) :=
  PE.imp (Lk.pe_callG Fn hgd hr hg hm hk hb ha (hdb := hdb) (he := he) (hpl := hpl)) fun σ H Q ⟨G, ρ, rep, fin⟩ => ⟨G, ρ, rep, finA_bind fin fun vs ds ρ1 H1 G1 rep1 st1 rk fin1 => by
    rw [List.append_nil]
    exact call_core (r0 := vs) (d0 := ds) (pm0 := []) rep1 rk hfc nd hts hcs (fin1.step st1) fun _ _ _ z => z⟩
/-! ### objects -/
/-- what is wanted of an exception hangs on no slots -/
def Flat (W : WX) : Prop := ∀ c d σ σ' H, W c d σ H → W c d σ' H
abbrev EW (W : WX) : XK := fun c d H => ∀ σ, W c d σ H
/-- the self of a method call stands ahead of the arguments: .full -/
def eMeth (n : String) (nm : Str) (F : FnD) (ks : List Kd) (f : E) (g : EA) : E := fun ρ => eBind (f ρ) fun d ρ1 => match d with
  | .ins n' fs => if n' = n ∧ fs.lookup nm = none then aBind (g ρ1) fun ds ρ2 => callR (.full :: ks) (F (argD (.full :: ks) (d :: ds) ρ2)) ρ2 else none
  | _ => none
/-- o.f, an attribute -/
def eFld (ns : List String) (nm : Str) (f : E) : E := fun ρ => eBind (f ρ) fun d ρ1 => match d with
  | .ins n fs => if n ∈ ns then lift (fs.lookup nm) ρ1 else none
  | _ => none
/-- o.f, a property: its getter -/
def eProp (n : String) (F : FnD) (f : E) : E := fun ρ => eBind (f ρ) fun d ρ1 => match d with
  | .ins n' fs => if n' = n then callR [.full] (F [d]) ρ1 else none
  | _ => none
/-- C(..) -/
def eMake (n : String) (F : FnD) (g : EA) : E := fun ρ => aBind (g ρ) fun ds ρ1 => match F (.ins n [] :: ds) with
  | some (.ok .non (d :: _)) => some (.ok d ρ1)
  | some (.ex x _) => some (.ex x ρ1)
  | _ => none
/-- o.f = e, o a cell -/
def sFld (i : Nat) (ns : List String) (nm : Str) (f : E) : SM := fun ρ => sBind (f ρ) fun d ρ1 => match ρ1[i]? with
  | some (some (.ins n fs)) => if n ∈ ns ∧ fs.length < 1000 then some (.nx (ρ1.set i (some (.ins n (putD nm d fs))))) else none
  | _ => none
/-- a cell's object is another one from here on -/
theorem Rep.upd (rep : Rep Γ cs σ H G ρ) {i : Nat} (hi : i ∈ cs) {a : Addr} {u : HO} {d d' : D} (hs : σ[i]? = some (some (.ref a))) (hr : ρ[i]? = some (some d)) (ow : OwnO Γ G u d') : Rep Γ cs σ (L2.upd H a u) G (ρ.set i (some d')) := by
  have hl := (List.getElem?_eq_some_iff.mp hr).1
  obtain ⟨a', o, q1, q2, q3, q4⟩ := rep.own i d hi hr
  rw [hs] at q1
  cases q1
  refine ⟨by rw [List.length_set]; exact rep.len, fun b v h => ?_, fun j h => ?_, fun j d2 hj h => ?_, fun j d2 hj h => ?_, rep.sep⟩
  · rw [upd_ne (ne_of_none h q3)]
    exact rep.sub _ _ h
  · by_cases e : i = j
    · subst e
      rw [List.getElem?_set_self hl] at h
      cases h
    · rw [List.getElem?_set_ne e] at h
      exact rep.un j h
  · rw [List.getElem?_set_ne (fun z => hj (by rw [← z]; exact hi))] at h
    exact rep.dat j d2 hj h
  · by_cases e : i = j
    · subst e
      rw [List.getElem?_set_self hl] at h
      cases h
      exact ⟨a, u, hs, upd_same, q3, ow⟩
    · rw [List.getElem?_set_ne e] at h
      obtain ⟨b, o', w1, w2, w3, w4⟩ := rep.own j d2 hj h
      refine ⟨b, o', w1, ?_, w3, w4⟩
      rw [upd_ne]
      · exact w2
      · rintro rfl
        exact e (rep.sep i j b hi hj hs w1)
theorem Stp.upd {i : Nat} (hi : i ∈ ts) {a : Addr} {u : HO} (hs : σ[i]? = some (some (.ref a))) : Stp (T ts σ) H G (L2.upd H a u) G :=
  ⟨Same.refl _, fun b o h n => by
    rw [upd_ne]
    · exact h
    · rintro rfl
      exact n ⟨i, hi, hs⟩, fun b h => by
    by_cases e : b = a
    · rw [e, upd_same]; intro z; cases z
    · rw [upd_ne e]; exact h, fun b h _ _ => h⟩
variable {S : Sx}
end
end
end Mi

set_option Elab.async false
set_option linter.all false
set_option maxRecDepth 100000
set_option maxHeartbeats 4000000
namespace Lk
open PySem PySem.Spec PyProof.Rows L2
/-! ### a text backwards -/
def tRevS (te : TE) : TE := fun σ H Q => te σ H fun x H1 => ∃ z : Str, x = .str z ∧ z.length ≤ sizeLine ∧ Q (.str ⟨z.cps.reverse⟩) H1
section
variable {X : Cx}
end
end Lk

set_option Elab.async false
set_option linter.all false
set_option maxRecDepth 100000
set_option maxHeartbeats 4000000
namespace Lk
open PySem PySem.Spec PyProof.Rows L2
/-! ### a tuple backwards -/
section
variable {P : Program} {w : World} {A : Around} {E : Value → Shared → Prop} {s : Shared}
end
def tRevT (K : PySem.W.Frag) (te : TE) : TE := fun σ H Q => te σ H fun x H1 => ∃ a xs, x = .ref a ∧ SqT K H1 a xs ∧ ∀ p, H1 p = none → Q (.ref p) (upd H1 p (.tup xs.reverse))
end Lk

set_option Elab.async false
set_option linter.all false
set_option maxRecDepth 100000
set_option maxHeartbeats 4000000
namespace Lk
open PySem PySem.Spec PyProof.Rows L2
/-! ### enumerate of a text -/
def Itx (z : Str) : It :=
  ⟨fun i _ => i < z.cps.size, fun i H v H' => ∃ T c, v = .ref T ∧ H T = none ∧ z.cps[i]? = some c ∧ H' = upd H T (.tup [.int (i : Nat), .str ⟨#[c]⟩]), fun i _ => i = z.cps.size⟩
def iEnumT (ta : TA) : TI := fun σ H R => ta σ H fun vs H1 => ∃ z : Str, vs = [.str z] ∧ R (Itx z) H1
/-! ### == and != by an own __eq__ -/
section
variable {X : Cx} {n : Nat}
/-- what == asks: x an instance of the class at C, y of a type that is not below C, the promise of the own __eq__ with a truth value -/
def rOEq (K : PySem.W.Frag) (C : Addr) (sp : Sp) (f : Bool → Bool) : R2 := fun x y H Q => ∃ a dx fs t, x = .ref a ∧ H a = some (.ins C dx fs) ∧ TyX K H y t ∧ PySem.W.notFirst K C t = true ∧
  sp [.ref a, y] H (fun z H' => ∃ b, z = .bl b ∧ Q (.bl (f b)) H') fun _ _ _ => False
end
/-! ### a chain of three comparisons -/
section
variable {X : Cx}
def tChain3 (r r' r'' : R2) (ta tb tc td : TE) : TE := fun σ H Q => ta σ H fun x H1 => tb σ H1 fun y H2 => r x y H2 fun z H3 => ∃ k, z = .bl k ∧
  (if k = true then tc σ H3 fun w' H4 => r' y w' H4 fun z2 H5 => ∃ k2, z2 = .bl k2 ∧ (if k2 = true then td σ H5 fun v' H6 => r'' w' v' H6 Q else Q (.bl false) H5) else Q (.bl false) H3)
end
end Lk

set_option Elab.async false
set_option linter.all false
set_option maxRecDepth 100000
set_option maxHeartbeats 4000000
namespace Mi
open PySem PySem.Spec PyProof.Rows L2
/-! ### what a loop walks -/
section
variable {Γ : Ga} {cs ts : List Nat} {W : WX} {m : Md} {σ : L2.St} {H G H1 G1 H0 : Hp} {ρ : Env} {f : E} {g : EA} {X : Cx} {e : Expr} {es : List Expr} {ks : List Kd} {a : Addr} {vs : List V} {ds : List D} {J : It} {items : List D} {ro : Option (Addr × HO)}
/-- the list stands in G, or lies in a cell -/
def Stood (Γ : Ga) (H G : Hp) (ro : Option (Addr × HO)) (a : Addr) (vs : List V) : Prop := SqL Γ.K G a vs ∨ (ro = some (a, .lst vs) ∧ H a = some (.lst vs))
theorem Stood.sees {H' : Hp} (h : Stood Γ H G ro a vs) (s : Same G H') (hr : ∀ a o, ro = some (a, o) → H' a = some o) : SqL Γ.K H' a vs := by
  rcases h with h | ⟨h, _⟩
  · exact s.seq h
  · exact SqL.of (hr _ _ h)
theorem root_stood {x : V} {d : D} (b : Bool) (s : Same G H) (h0 : RM Γ (if b then .root else .full) H0 H G x d) (e : listD d = some ds) : ∃ a vs ro, x = .ref a ∧ Stood Γ H G ro a vs ∧ Dts Γ G vs ds ∧ (b = false → ro = none) ∧ ∀ a o, ro = some (a, o) → H a = some o := by
  have full : Dt Γ G x d → ∃ a vs ro, x = .ref a ∧ Stood Γ H G ro a vs ∧ Dts Γ G vs ds ∧ (b = false → ro = none) ∧ ∀ a o, ro = some (a, o) → H a = some o := by
    intro h
    cases d with
    | lst ds' =>
      cases e
      cases h with
      | lst h r => exact ⟨_, _, none, rfl, .inl (SqL.of h), r, fun _ => rfl, fun _ _ z => nomatch z⟩
    | slst ns =>
      cases e
      cases h with
      | slst h => exact ⟨_, _, none, rfl, .inl h, Dts.ints ns, fun _ => rfl, fun _ _ z => nomatch z⟩
    | _ => cases e
  cases b with
  | false => exact full h0
  | true =>
    rcases (show RM Γ .root H0 H G x d from h0) with h | ⟨a, o, rfl, q, h⟩
    · exact full h
    · cases h with
      | lst r =>
        cases e
        exact ⟨a, _, some (a, .lst _), rfl, .inr ⟨rfl, q⟩, r, fun z => (by cases z), fun b o z => by cases z; exact q⟩
      | ins r => cases e
      | dK r => cases e
      | dT r => cases e
      | dI r => cases e
def rngL (lo : Int) (n : Nat) : List D := (List.range n).map fun (i : Nat) => D.int (lo + (i : Int))
theorem wd_rng {lo : Int} {n : Nat} : WalkD Γ (Itr lo n) (rngL lo n) G none :=
  ⟨⟨_, _, by unfold rngL; rw [List.length_map, List.length_range]; exact walk_range, fun _ _ _ => trivial, fun i H' v H2 d G1 hd s1 s2 y => by
    obtain ⟨rfl, rfl⟩ := y
    unfold rngL at hd
    rw [List.getElem?_map] at hd
    obtain ⟨j, h1, h2⟩ := Option.map_eq_some_iff.mp hd
    obtain ⟨h3, h4⟩ := List.getElem?_eq_some_iff.mp h1
    rw [List.getElem_range] at h4
    subst h2 h4
    exact ⟨G1, Ext.refl s2, .int _⟩⟩⟩
def chrL (z : Str) : List D := z.cps.toList.map fun c => D.str ⟨#[c]⟩
theorem pair_new {H' G1 : Hp} {t : Addr} {x y : V} {dx dy : D} (s : Same G1 H') (nt : H' t = none) (h1 : Dt Γ G1 x dx) (h2 : Dt Γ G1 y dy) : ∃ G2, Ext H' G1 (upd H' t (.tup [x, y])) G2 ∧ Dt Γ G2 (.ref t) (.tup [dx, dy]) := by
  have ex : Ext H' G1 (upd H' t (.tup [x, y])) (upd G1 t (.tup [x, y])) := Ext.new s nt
  exact ⟨_, ex, Dt.tup upd_same (.cons (h1.same ex.st.g) (.cons (h2.same ex.st.g) .nil))⟩
def enumL (k : Nat) : List D → List D
  | [] => []
  | d :: ds => .tup [.int (k : Int), d] :: enumL (k + 1) ds
theorem enumL_len : ∀ (k : Nat) (ds : List D), (enumL k ds).length = ds.length
  | _, [] => rfl
  | k, d :: ds => congrArg (· + 1) (enumL_len (k + 1) ds)
theorem enumL_get : ∀ {k : Nat} {ds : List D} {i : Nat} {d : D}, (enumL k ds)[i]? = some d → ∃ e, ds[i]? = some e ∧ d = .tup [.int ((k + i : Nat) : Int), e]
  | _, [], _, _, h => by simp [enumL] at h
  | k, d0 :: ds, 0, d, h => ⟨d0, rfl, by simp [enumL] at h; exact h.symm⟩
  | k, d0 :: ds, i + 1, d, h => by
    obtain ⟨e, h1, h2⟩ := enumL_get (k := k + 1) (ds := ds) (i := i) (d := d) (by simpa [enumL] using h)
    exact ⟨e, by simpa using h1, by rw [h2, show k + 1 + i = k + (i + 1) by omega]⟩
theorem wd_enum (h : Stood Γ H G ro a vs) (r : Dts Γ G vs ds) : WalkD Γ (Ite Γ.K a) (enumL 0 ds) G ro :=
  ⟨⟨_, _, by rw [enumL_len, ← r.len]; exact walk_enum, fun H' s hr => h.sees s hr, fun i H' v H2 d G1 hd s1 s2 y => by
    obtain ⟨t, x, u, rfl, nt, rfl, hx, hu⟩ := y
    obtain ⟨e, q1, rfl⟩ := enumL_get hd
    obtain ⟨w, q2, q3⟩ := r.get q1
    have hu' : vs[i]? = some u := hu
    rw [hu'] at q2
    cases q2
    cases hx
    rw [Nat.zero_add]
    exact pair_new s2 nt (.int _) (q3.same s1)⟩⟩
def zipL (as bs : List D) : List D := List.zipWith (fun x y => D.tup [x, y]) as bs
/-! #### from expressions -/
def iL (f : E) : E := fun ρ => eBind (f ρ) fun d ρ1 => match listD d with
  | some ds => some (.ok (.lst ds) ρ1)
  | none => none
def iT (f : E) : E := fun ρ => eBind (f ρ) fun d ρ1 => match d with
  | .tup ds => some (.ok (.lst ds) ρ1)
  | _ => none
def iS (f : E) : E := fun ρ => eBind (f ρ) fun d ρ1 => match d with
  | .str z => some (.ok (.lst (chrL z)) ρ1)
  | _ => none
def iA (k : List D → Option (List D)) (g : EA) : E := fun ρ => aBind (g ρ) fun ds ρ1 => match k ds with
  | some is => some (.ok (.lst is) ρ1)
  | none => none
theorem finIA_bind {r : Option RA} {k : List D → Env → Option R} {b : Bool} {Rr : It → Hp → Prop} {Q1 : List V → Hp → Prop} (fin : FinI Γ cs ts W b σ H G Rr (aBind r k))
    (hk : ∀ vs ds ρ1 H1 G1, Rep Γ cs σ H1 G1 ρ1 → Stp (T ts σ) H G H1 G1 → RKs Γ σ H H1 G1 ks vs ds → FinI Γ cs ts W b σ H G Rr (k ds ρ1) → Q1 vs H1) : FinA Γ cs ts W ks σ H G Q1 r := by
  rcases r with _ | ⟨d, ρ'⟩ | ⟨x, ρ'⟩
  · exact fin
  · exact fun v H' G' rep st rm => hk v d ρ' H' G' rep st rm fin
  · exact fun c dx H' G' rep st q => fin c dx H' G' rep st q
def rngC (i : Int) : Prop := -(2 ^ 62) ≤ i ∧ i < 2 ^ 62
noncomputable instance (i : Int) : Decidable (rngC i) := Classical.propDecidable _
noncomputable def k_rng1 : List D → Option (List D)
  | [.int j] => if rngC j then some (rngL 0 j.toNat) else none
  | _ => none
noncomputable def k_rng2 : List D → Option (List D)
  | [.int i, .int j] => if rngC i ∧ rngC j then some (rngL i (j - i).toNat) else none
  | _ => none
def k_enum : List D → Option (List D)
  | [d] => (listD d).map (enumL 0)
  | _ => none
def k_enumT : List D → Option (List D)
  | [.str z] => some (enumL 0 (chrL z))
  | _ => none
def k_rev : List D → Option (List D)
  | [d] => (listD d).map List.reverse
  | _ => none
def k_zip : List D → Option (List D)
  | [d, e] => (listD d).bind fun as => (listD e).map (zipL as)
  | _ => none
section
variable {tg : Expr} {p pos : Pos} {Rr : It → Hp → Prop} {b : Bool} {k : List D → Option (List D)} {ρ1 : Env}
theorem FinI.ka (fin : FinI Γ cs ts W b σ H G Rr (match k ds with
  | some is => some (.ok (.lst is) ρ1)
  | none => none)) : ∃ is, k ds = some is ∧ FinI Γ cs ts W b σ H G Rr (some (.ok (.lst is) ρ1)) := by
  cases e : k ds with
  | none => rw [e] at fin; exact fin.elim
  | some is => rw [e] at fin; exact ⟨is, rfl, fin⟩
theorem one_of {d : D} (r : RKs Γ σ H0 H G ks vs [d]) : ∃ k v, ks = [k] ∧ vs = [v] ∧ RK Γ σ H0 H G k v d := by
  cases ks with
  | nil => cases vs <;> exact r.elim
  | cons k ks =>
    cases vs with
    | nil => exact r.elim
    | cons v vs =>
      cases ks with
      | nil =>
        cases vs with
        | nil => exact ⟨k, v, rfl, rfl, r.1⟩
        | cons => exact r.2.2.elim
      | cons k2 ks =>
        cases vs with
        | nil => exact r.2.2.elim
        | cons => exact r.2.2.elim
theorem mi_rng1 (hg : Gl X "range") (hm : X.mg "range" = none) (ha : PA X [e] (tA Γ cs ts W [.full] g)) (hs : starEach [e] X.env = [(false, eval e X.env)] := by rfl) : PI X tg (.Call (.Name "range" p) [e] [] pos) (tI Γ cs ts W b (iA k_rng1 g)) := by
  refine PI.imp (pi_range1 hg hm ha hs) fun σ H Rr ⟨G, ρ, rep, fin⟩ => ⟨G, ρ, rep, finIA_bind fin fun vs ds ρ1 H1 G1 rep1 st1 rk fin1 => ?_⟩
  obtain ⟨is, e, fin2⟩ := fin1.ka
  unfold k_rng1 at e
  split at e
  · split at e
    · rename_i j hc
      cases e
      obtain ⟨k, v, h1, rfl, h2⟩ := one_of rk
      cases h1
      cases dt_int h2
      exact ⟨j, rfl, hc.1, hc.2, fin2 _ H1 G1 none (fun _ => rfl) rep1 st1 (fun _ _ z => nomatch z) wd_rng⟩
    · cases e
  · cases e
def Kd.lm : Kd → Bool → Bool
  | .full, _ => true
  | .root, b => b
  | _, _ => false
theorem rk_stood {k : Kd} {x : V} {d : D} (hk : k.lm b = true) (s : Same G H) (h : RK Γ σ H0 H G k x d) (e : listD d = some ds) : ∃ a vs ro, x = .ref a ∧ Stood Γ H G ro a vs ∧ Dts Γ G vs ds ∧ (b = false → ro = none) ∧ ∀ a o, ro = some (a, o) → H a = some o := by
  cases k with
  | full =>
    obtain ⟨a, vs, ro, h1, h2, h3, h4, h5⟩ := root_stood (H0 := H0) false s h e
    have hr := h4 rfl
    subst hr
    exact ⟨a, vs, none, h1, h2, h3, fun _ => rfl, h5⟩
  | root =>
    have hb : b = true := hk
    subst hb
    exact root_stood (H0 := H0) true s h e
  | own => cases hk
  | cel i => cases hk
theorem mi_enum {k : Kd} {elts : List Expr} {kk : Nat} {tpos : Pos} {K : PySem.W.Frag} (hg : Gl X "enumerate") (hm : X.mg "enumerate" = none) (ha : PA X [e] (tA Γ cs ts W [k] g)) (hk : k.lm b = true := by rfl) (hK : X.K = K := by rfl) (hΓ : Γ.K = K := by rfl) (hs : starEach [e] X.env = [(false, eval e X.env)] := by rfl) :
    PI X (.Tuple elts kk tpos) (.Call (.Name "enumerate" p) [e] [] pos) (tI Γ cs ts W b (iA k_enum g)) := by
  subst hK
  refine PI.imp (pi_enum hg hm ha hs) fun σ H Rr ⟨G, ρ, rep, fin⟩ => ⟨G, ρ, rep, finIA_bind fin fun vs ds ρ1 H1 G1 rep1 st1 rk fin1 => ?_⟩
  obtain ⟨is, e, fin2⟩ := fin1.ka
  unfold k_enum at e
  split at e
  · obtain ⟨ds, e1, rfl⟩ := Option.map_eq_some_iff.mp e
    obtain ⟨k', v, h1, rfl, h2⟩ := one_of rk
    cases h1
    obtain ⟨a, vs, ro, rfl, q1, q2, q3, q4⟩ := rk_stood hk rep1.sub h2 e1
    rw [← hΓ]
    exact ⟨a, vs, rfl, q1.sees rep1.sub q4, fin2 _ H1 G1 ro q3 rep1 st1 q4 (wd_enum q1 q2)⟩
  · cases e
end
/-! ### comprehensions -/
def wipeD (ρ : Env) : List Nat → Env
  | [] => ρ
  | v :: vs => (wipeD ρ vs).set v none
/-- the slots vs as ρ has them, the rest as ρ' has it -/
def setO (ρ r : Env) (i : Nat) : Env := match ρ[i]? with
  | some x => r.set i x
  | none => r
def restD (vs : List Nat) (ρ ρ' : Env) : Env := vs.foldl (setO ρ) ρ'
theorem setO_len (ρ r : Env) (i : Nat) : (setO ρ r i).length = r.length := by
  unfold setO
  split
  · rw [List.length_set]
  · rfl
theorem setO_out {ρ r : Env} {i j : Nat} (h : j ≠ i) : (setO ρ r j)[i]? = r[i]? := by
  unfold setO
  split
  · rw [List.getElem?_set_ne h]
  · rfl
theorem setO_in {ρ r : Env} {i : Nat} (h : r.length = ρ.length) : (setO ρ r i)[i]? = ρ[i]? := by
  unfold setO
  cases q : ρ[i]? with
  | none =>
    dsimp only
    rw [List.getElem?_eq_none_iff] at q ⊢
    omega
  | some x =>
    dsimp only
    rw [List.getElem?_set_self (by have := (List.getElem?_eq_some_iff.mp q).1; omega)]
def compF (vs : List Nat) (t : Tg) (c : Option E) (f : E) : List D → List D → E
  | [], acc, ρ => some (.ok (.lst acc) ρ)
  | d :: ds, acc, ρ => match tgtD t d (wipeD ρ vs) with
    | none => none
    | some ρ1 => match (match c with
        | none => (some (R.ok (.bl true) ρ1) : Option R)
        | some c => c ρ1) with
      | some (.ok (.bl true) ρ2) => (match f ρ2 with
        | some (.ok z ρ3) => if acc.length < sizeLine then compF vs t c f ds (acc ++ [z]) (restD vs ρ ρ3) else none
        | _ => none)
      | some (.ok (.bl false) ρ2) => compF vs t c f ds acc (restD vs ρ ρ2)
      | _ => none
def eComp (vs : List Nat) (t : Tg) (c : Option E) (f src : E) : E := fun ρ => eBind (src ρ) fun d ρ1 => match d with
  | .lst items => compF vs t c f items [] ρ1
  | _ => none
theorem wipeD_len (ρ : Env) : ∀ vs : List Nat, (wipeD ρ vs).length = ρ.length
  | [] => rfl
  | v :: vs => by unfold wipeD; rw [List.length_set, wipeD_len ρ vs]
theorem wipeD_in {ρ : Env} {i : Nat} : ∀ {vs : List Nat}, i ∈ vs → i < ρ.length → (wipeD ρ vs)[i]? = some none
  | v :: vs, h, hl => by
    unfold wipeD
    by_cases e : v = i
    · subst e
      rw [List.getElem?_set_self (by rw [wipeD_len]; exact hl)]
    · rw [List.getElem?_set_ne e]
      exact wipeD_in ((List.mem_cons.mp h).elim (fun z => absurd z.symm e) id) hl
theorem wipeD_out {ρ : Env} {i : Nat} : ∀ {vs : List Nat}, i ∉ vs → (wipeD ρ vs)[i]? = ρ[i]?
  | [], _ => rfl
  | v :: vs, h => by
    unfold wipeD
    rw [List.getElem?_set_ne (fun z => h (by rw [z]; exact List.mem_cons_self))]
    exact wipeD_out fun z => h (List.mem_cons_of_mem _ z)
theorem wipe_in {σ : L2.St} {i : Nat} : ∀ {vs : List Nat}, i ∈ vs → i < σ.length → (wipe σ vs)[i]? = some none
  | v :: vs, h, hl => by
    unfold wipe
    by_cases e : v = i
    · subst e
      rw [List.getElem?_set_self (by rw [wipe_length]; exact hl)]
    · rw [List.getElem?_set_ne e]
      exact wipe_in ((List.mem_cons.mp h).elim (fun z => absurd z.symm e) id) hl
theorem wipe_out {σ : L2.St} {i : Nat} : ∀ {vs : List Nat}, i ∉ vs → (wipe σ vs)[i]? = σ[i]?
  | [], _ => rfl
  | v :: vs, h => by
    unfold wipe
    rw [List.getElem?_set_ne (fun z => h (by rw [z]; exact List.mem_cons_self))]
    exact wipe_out fun z => h (List.mem_cons_of_mem _ z)
theorem Rep.wipe (rep : Rep Γ cs σ H G ρ) {vs : List Nat} (hv : ∀ i ∈ vs, i ∉ cs) : Rep Γ cs (L2.wipe σ vs) H G (wipeD ρ vs) := by
  refine ⟨by rw [wipeD_len, wipe_length]; exact rep.len, rep.sub, fun i h => ?_, fun i d hi h => ?_, fun i d hi h => ?_, fun i j a hi hj h1 h2 => ?_⟩
  · have hl := (List.getElem?_eq_some_iff.mp h).1
    rw [wipeD_len] at hl
    by_cases c : i ∈ vs
    · exact wipe_in c (by rw [← rep.len]; exact hl)
    · rw [wipeD_out c] at h
      rw [wipe_out c]
      exact rep.un i h
  · have hl := (List.getElem?_eq_some_iff.mp h).1
    rw [wipeD_len] at hl
    by_cases c : i ∈ vs
    · rw [wipeD_in c hl] at h; cases h
    · rw [wipeD_out c] at h
      rw [wipe_out c]
      exact rep.dat i d hi h
  · have c : i ∉ vs := fun z => hv i z hi
    rw [wipeD_out c] at h
    rw [wipe_out c]
    exact rep.own i d hi h
  · rw [wipe_out fun z => hv i z hi] at h1
    rw [wipe_out fun z => hv j z hj] at h2
    exact rep.sep i j a hi hj h1 h2
theorem restD_len (ρ : Env) : ∀ (vs : List Nat) (ρ' : Env), (restD vs ρ ρ').length = ρ'.length
  | [], _ => rfl
  | v :: vs, ρ' => by
    show (restD vs ρ (setO ρ ρ' v)).length = _
    rw [restD_len ρ vs, setO_len]
theorem restD_out {ρ : Env} {i : Nat} : ∀ {vs : List Nat} {ρ' : Env}, i ∉ vs → (restD vs ρ ρ')[i]? = ρ'[i]?
  | [], _, _ => rfl
  | v :: vs, ρ', h => by
    show (restD vs ρ (setO ρ ρ' v))[i]? = _
    rw [restD_out fun z => h (List.mem_cons_of_mem _ z), setO_out fun z => h (by rw [z]; exact List.mem_cons_self)]
theorem restD_in {ρ : Env} {i : Nat} : ∀ {vs : List Nat} {ρ' : Env}, i ∈ vs → ρ'.length = ρ.length → (restD vs ρ ρ')[i]? = ρ[i]?
  | v :: vs, ρ', h, hl => by
    show (restD vs ρ (setO ρ ρ' v))[i]? = _
    by_cases c : i ∈ vs
    · exact restD_in c (by rw [setO_len]; exact hl)
    · rw [restD_out c]
      have e : i = v := (List.mem_cons.mp h).elim id fun z => absurd z c
      subst e
      exact setO_in hl
/-- back in the outer slots -/
theorem Rep.rest {σ2 : L2.St} {ρ0 ρ2 : Env} {H2 G2 : Hp} {vs : List Nat} (rep0 : Rep Γ cs σ H G ρ0) (sg : Same G G2) (rep2 : Rep Γ cs σ2 H2 G2 ρ2) (hv : ∀ i ∈ vs, i ∉ cs) (hl : σ2.length = σ.length) (ho : ∀ i, i ∉ vs → σ2[i]? = σ[i]?) : Rep Γ cs σ H2 G2 (restD vs ρ0 ρ2) := by
  have l2 : ρ2.length = ρ0.length := rep2.len.trans (hl.trans rep0.len.symm)
  refine ⟨by rw [restD_len, rep2.len, hl], rep2.sub, fun i h => ?_, fun i d hi h => ?_, fun i d hi h => ?_, rep0.sep⟩
  · by_cases c : i ∈ vs
    · rw [restD_in c l2] at h
      exact rep0.un i h
    · rw [restD_out c] at h
      rw [← ho i c]
      exact rep2.un i h
  · by_cases c : i ∈ vs
    · rw [restD_in c l2] at h
      obtain ⟨v, h1, h2⟩ := rep0.dat i d hi h
      exact ⟨v, h1, h2.same sg⟩
    · rw [restD_out c] at h
      rw [← ho i c]
      exact rep2.dat i d hi h
  · have c : i ∉ vs := fun z => hv i z hi
    rw [restD_out c] at h
    rw [← ho i c]
    exact rep2.own i d hi h
def tC' (Γ : Ga) (cs ts : List Nat) : Option E → TT
  | none => tYes
  | some c => tT Γ cs ts W0 c
theorem Stp.slots {σ σ' : L2.St} (hs : ∀ i ∈ ts, σ'[i]? = σ[i]?) (s : Stp (T ts σ') H G H1 G1) : Stp (T ts σ) H G H1 G1 := s.mono fun a ⟨i, hi, h⟩ => ⟨i, hi, (hs i hi).symm.trans h⟩
theorem comp_core {t : Tg} {c : Option E} {src : E} {vs : List Nat} {b : Bool} {Q : VK} {wi : TI} (hwi : ∀ σ H Rr, tI Γ cs ts W b src σ H Rr → wi σ H Rr) (hv : ∀ i ∈ vs, i ∉ cs) (hsl : ∀ i ∈ t.sl, i ∈ vs) (hts : ∀ i ∈ ts, i ∈ cs) (hb : b = false ∨ ts = []) (h : tE Γ cs ts W .own (eComp vs t c f src) σ H Q) :
    tLc wi (tG Γ [] cs t) (tC' Γ cs ts c) (tE Γ cs ts W0 .full f) vs σ H Q := by
  obtain ⟨G, ρ, rep, fin⟩ := h
  refine hwi σ H _ ⟨G, ρ, rep, ?_⟩
  unfold eComp at fin
  generalize src ρ = r at fin ⊢
  rcases r with _ | ⟨d, ρ1⟩ | ⟨x, ρ1⟩
  · exact fin
  · cases d with
    | lst items =>
      intro J H1 G1 ro hro rep1 st1 hroot wd L nD
      have fin1 : Fin Γ cs ts W .own σ H G Q (compF vs t c f items [] ρ1) := fin
      obtain ⟨Gp, Y, wk, wg, wy⟩ := wd.ex
      have nDG : G1 L = none := free_sub rep1.sub nD
      have HD : H L = none := by
        cases e : H L with
        | none => rfl
        | some u => exact absurd nD (st1.t L (by rw [e]; intro z; cases z))
      refine lc_it wk (fun i H' => ∃ G' ρ' vacc acc, Rep Γ cs σ H' G' ρ' ∧ Stp (T ts σ) H1 G1 H' G' ∧ H' L = some (.lst vacc) ∧ G' L = none ∧ Dts Γ G' vacc acc ∧ Fin Γ cs ts W .own σ H G Q (compF vs t c f (items.drop i) acc ρ'))
        ⟨G1, ρ1, [], [], rep1.ext (Ext.newOwn rep1.sub nD), (Ext.newOwn rep1.sub nD).any, upd_same, nDG, .nil, fin1⟩
        (fun i H' _ ⟨G', ρ', vacc, acc, rep', st', _⟩ => wg H' (st'.g.trans rep'.sub) fun a o e => ?_) (fun i x H' H2 hi ⟨G', ρ', vacc, acc, rep', st', hD', nD', dt', fin'⟩ y => ?_) fun H' ⟨G', ρ', vacc, acc, rep', st', hD', nD', dt', fin'⟩ => ?_
      · rcases hb with hb | hb
        · rw [hro hb] at e; cases e
        · subst hb
          exact st'.h a o (hroot a o e) T.nil
      · have hd : items[i]? = some items[i] := List.getElem?_eq_getElem hi
        obtain ⟨G2, ex2, dt2⟩ := wy i H' x H2 items[i] G' hd st'.g rep'.sub y
        rw [List.drop_eq_getElem_cons hi] at fin'
        unfold compF at fin'
        cases q : tgtD t items[i] (wipeD ρ' vs) with
        | none => rw [q] at fin'; exact fin'.elim
        | some ρ2 =>
          rw [q] at fin'
          have rep2 := (rep'.ext ex2).wipe hv
          have rep2o := rep'.ext ex2
          refine ⟨G2, _, _, ρ2, rep2, dt2, q, fun σ3 st3 => ?_⟩
          obtain ⟨rep3, tn3, _, out3⟩ := st3
          have len3 : σ3.length = σ.length := by
            rw [← rep3.len, ← rep'.len]
            have : ∀ (t : Tg) (d : D) (ρ ρ2 : Env), tgtD t d ρ = some ρ2 → ρ2.length = ρ.length := by
              intro t
              refine Tg.rec (motive_1 := fun t => ∀ (d : D) (ρ ρ2 : Env), tgtD t d ρ = some ρ2 → ρ2.length = ρ.length) (motive_2 := fun ts => ∀ (ds : List D) (ρ ρ2 : Env), tgtsD ts ds ρ = some ρ2 → ρ2.length = ρ.length) ?_ ?_ ?_ ?_ t
              · intro i d ρ ρ2 h
                unfold tgtD at h
                cases h
                rw [List.length_set]
              · intro ts ih d ρ ρ2 h
                cases d with
                | tup ds => exact ih ds ρ ρ2 h
                | _ => unfold tgtD at h; cases h
              · intro ds ρ ρ2 h
                cases ds with
                | nil => unfold tgtsD at h; cases h; rfl
                | cons => unfold tgtsD at h; cases h
              · intro t ts ih1 ih2 ds ρ ρ2 h
                cases ds with
                | nil => unfold tgtsD at h; cases h
                | cons d ds =>
                  unfold tgtsD at h
                  obtain ⟨ρ3, e1, e2⟩ := Option.bind_eq_some_iff.mp h
                  rw [ih2 ds ρ3 ρ2 e2, ih1 d ρ ρ3 e1]
            rw [this _ _ _ _ q, wipeD_len]
          have out : ∀ i, i ∉ vs → σ3[i]? = σ[i]? := fun i hi => (out3 i fun z => hi (hsl i z)).trans (wipe_out hi)
          have wq : L2.wipe σ3 vs = L2.wipe σ vs := by
            apply List.ext_getElem?
            intro i
            by_cases c : i ∈ vs
            · by_cases hl : i < σ.length
              · rw [wipe_in c (by rw [len3]; exact hl), wipe_in c hl]
              · rw [List.getElem?_eq_none (by rw [wipe_length, len3]; omega), List.getElem?_eq_none (by rw [wipe_length]; omega)]
            · rw [wipe_out c, wipe_out c, out i c]
          have sl : ∀ i ∈ ts, σ3[i]? = σ[i]? := fun i hi => out i fun z => hv i z (hts i hi)
          have hD2 : H2 L = some (.lst vacc) := ex2.h _ _ hD'
          have nD2 : G2 L = none := ex2.st.n L nD' (.of hD' fun _ z => nomatch z) fun z => z
          have nT : ∀ (H : Hp) (G : Hp) (ρ : Env), Rep Γ cs σ H G ρ → H L = none → ¬ T ts σ L := fun H G ρ r e z => (r.tc (T.sub hts z)).1 e
          have nTD : ¬ T ts σ L := nT H G ρ rep HD
          refine ⟨wq, ?_⟩
          -- the test
          have key : ∀ (b : Bool) (ρ3 : Env) (H3 G3 : Hp), Rep Γ cs σ3 H3 G3 ρ3 → Stp (T ts σ3) H2 G2 H3 G3 → Fin Γ cs ts W .own σ H G Q (match b with
              | true => (match f ρ3 with
                | some (.ok z ρ4) => if acc.length < sizeLine then compF vs t c f (items.drop (i + 1)) (acc ++ [z]) (restD vs ρ' ρ4) else none
                | _ => none)
              | false => compF vs t c f (items.drop (i + 1)) acc (restD vs ρ' ρ3)) →
              if b = true then tE Γ cs ts W0 .full f σ3 H3 (fun y H4 => ∃ acc', H4 L = some (.lst acc') ∧ acc'.length < sizeLine ∧ ∃ G' ρ' vacc acc, Rep Γ cs σ (upd H4 L (.lst (acc' ++ [y]))) G' ρ' ∧ Stp (T ts σ) H1 G1 (upd H4 L (.lst (acc' ++ [y]))) G' ∧
                  (upd H4 L (.lst (acc' ++ [y]))) L = some (.lst vacc) ∧ G' L = none ∧ Dts Γ G' vacc acc ∧ Fin Γ cs ts W .own σ H G Q (compF vs t c f (items.drop (i + 1)) acc ρ'))
                else ∃ G' ρ' vacc acc, Rep Γ cs σ H3 G' ρ' ∧ Stp (T ts σ) H1 G1 H3 G' ∧ H3 L = some (.lst vacc) ∧ G' L = none ∧ Dts Γ G' vacc acc ∧ Fin Γ cs ts W .own σ H G Q (compF vs t c f (items.drop (i + 1)) acc ρ') := by
            intro b ρ3 H3 G3 r3 s3 f3
            have s3' := s3.slots sl
            have hD3 : H3 L = some (.lst vacc) := s3'.h _ _ hD2 nTD
            have nD3 : G3 L = none := s3'.n L nD2 (.of hD2 fun _ z => nomatch z) nTD
            cases b with
            | false =>
              rw [if_neg Bool.false_ne_true]
              exact ⟨G3, _, vacc, acc, rep2o.rest s3.g r3 hv len3 out, st'.tr (ex2.any.tr s3'), hD3, nD3, dt'.same (ex2.st.g.trans s3.g), f3⟩
            | true =>
              rw [if_pos rfl]
              refine ⟨G3, ρ3, r3, ?_⟩
              dsimp only at f3
              generalize f ρ3 = r4 at f3 ⊢
              rcases r4 with _ | ⟨z, ρ4⟩ | ⟨z, ρ4⟩
              · exact f3
              · intro v H4 G4 rep4 st4 rm4
                dsimp only at f3
                have st4' := st4.slots sl
                have hD4 : H4 L = some (.lst vacc) := st4'.h _ _ hD3 nTD
                have nD4 : G4 L = none := st4'.n L nD3 (.of hD3 fun _ z => nomatch z) nTD
                by_cases hlen : acc.length < sizeLine
                · rw [if_pos hlen] at f3
                  have d4 : Dts Γ G4 vacc acc := dt'.same (ex2.st.g.trans (s3.g.trans st4.g))
                  have repo := rep2o.rest (s3.g.trans st4.g) rep4 hv len3 out
                  refine ⟨vacc, hD4, by rw [d4.len]; exact hlen, G4, restD vs ρ' ρ4, vacc ++ [v], acc ++ [z], ?_, ?_, upd_same, nD4, d4.app (.cons rm4 .nil), f3⟩
                  · -- the list at D has grown: no slot knows it
                    refine ⟨repo.len, fun x u hx => ?_, repo.un, repo.dat, fun j d hj h => ?_, repo.sep⟩
                    · rw [upd_ne (ne_of_none hx nD4)]
                      exact repo.sub _ _ hx
                    · obtain ⟨a, o, q1, q2, q3, q4⟩ := repo.own j d hj h
                      refine ⟨a, o, q1, ?_, q3, q4⟩
                      rw [upd_ne]
                      · exact q2
                      · rintro rfl
                        exact (rep.tc ⟨j, hj, q1⟩).1 HD
                  · have s04 : Stp (T ts σ) H1 G1 H4 G4 := st'.tr (ex2.any.tr (s3'.tr st4'))
                    refine ⟨s04.g, fun x u hx nx => ?_, fun x hx => ?_, s04.n⟩
                    · rw [upd_ne (ne_of_none hx nD)]
                      exact s04.h x u hx nx
                    · by_cases e : x = L
                      · rw [e, upd_same]; intro z; cases z
                      · rw [upd_ne e]; exact s04.t x hx
                · rw [if_neg hlen] at f3
                  exact f3.elim
              · exact f3.elim
          cases c with
          | none => exact key true ρ2 H2 G2 rep3 Stp.refl fin'
          | some c =>
            refine ⟨G2, ρ2, rep3, ?_⟩
            dsimp only at fin'
            generalize c ρ2 = r3 at fin' ⊢
            rcases r3 with _ | ⟨z, ρ3⟩ | ⟨z, ρ3⟩
            · exact fin'
            · cases z with
              | bl b =>
                intro H3 G3 rep4 st4
                refine key b ρ3 H3 G3 rep4 st4 ?_
                cases b <;> exact fin'
              | _ => exact (show False from fin').elim
            · exact fin'.elim
      · rw [List.drop_length] at fin'
        have fin2 : Fin Γ cs ts W .own σ H G Q (some (.ok (.lst acc) ρ')) := fin'
        exact fin2 (.ref L) H' G' rep' (st1.tr st') ⟨L, _, rfl, HD, hD', nD', .lst dt'⟩
    | _ => exact (show False from fin).elim
  · exact fin
section
variable {elt tg iter : Expr} {ifs : List Expr} {scope : Scope} {own : List (Str × Nat)} {pos : Pos} {t : Tg} {c : Option E} {src : E} {b : Bool}
theorem me_lc (hc : X.calm = true) (hN : X.N.Nodup) (hi : PI X tg iter (tI Γ cs ts W b src)) (ok : BlkOk X.N X.env.scope scope own)
    (hg : ∀ (s : Shared) (H : Hp) (C : Addr) (cl : List (Str × Addr)) (fp : List Addr), PG (X.blk s H scope (compEnvC scope cl C X.env) fp) tg (tG Γ [] cs t)) (ht : ∀ (s : Shared) (H : Hp) (C : Addr) (cl : List (Str × Addr)) (fp : List Addr), PTs (X.blk s H scope (compEnvC scope cl C X.env) fp) ifs (tC' Γ cs ts c))
    (he : ∀ (s : Shared) (H : Hp) (C : Addr) (cl : List (Str × Addr)) (fp : List Addr), PE (X.blk s H scope (compEnvC scope cl C X.env) fp) elt (tE Γ cs ts W0 .full f)) (hv : ∀ i ∈ own.map (·.2), i ∉ cs := by decide) (hsl : ∀ i ∈ t.sl, i ∈ own.map (·.2) := by decide)
    (hts : ∀ i ∈ ts, i ∈ cs := by first | exact nil_sub | exact all_sub | decide) (hb : b = false ∨ ts = [] := by first | exact .inl rfl | exact .inr rfl) (hs : ∀ x, foldedSetIterable iter X.env x = pure x := by intro _; rfl) :
    PE X (.ListComp elt [⟨tg, iter, ifs, 0⟩] scope pos) (tE Γ cs ts W .own (eComp (own.map (·.2)) t c f src)) :=
  PE.imp (pe_lc hc hN hi ok hg ht he hs) fun _ _ _ h => comp_core (fun _ _ _ h => h) hv hsl hts hb h
theorem mts_nil : PTs X [] (tC' Γ cs ts none) := pts_nil
variable {S : Sx} {i : Nat} {y : Str} {py spos : Pos} {cs' : List Nat}
end
end
end Mi

set_option linter.all false
namespace Lk
/-! ### cells of a box that have a property, and halves of a block -/
def cntB (P : Nat → Nat → Bool) (x y : Nat) : Nat → Nat → Nat
  | 0, _ => 0
  | w + 1, h => cntB P x y w h + (List.range h).countP (fun b => P (x + w) (y + b))
/-- a box, counted from the first cell of a block -/
abbrev P4 := Nat × Nat × Nat × Nat
def wP (p : P4) : Nat := p.2.2.1 + 1 - p.1
def hP (p : P4) : Nat := p.2.2.2 + 1 - p.2.1
def InBlk (l : List Bool) (p : P4) : Prop := p.1 ≤ p.2.2.1 ∧ p.2.1 ≤ p.2.2.2 ∧ p.2.2.1 < 2 ^ nx l ∧ p.2.2.2 < 2 ^ ny l
def loP (b : Bool) (i j : Nat) (p : P4) : Option P4 :=
  if b = true then (if p.1 < 2 ^ i then some (p.1, p.2.1, min p.2.2.1 (2 ^ i - 1), p.2.2.2) else none)
  else (if p.2.1 < 2 ^ j then some (p.1, p.2.1, p.2.2.1, min p.2.2.2 (2 ^ j - 1)) else none)
def hiP (b : Bool) (i j : Nat) (p : P4) : Option P4 :=
  if b = true then (if 2 ^ i ≤ p.2.2.1 then some (p.1 - 2 ^ i, p.2.1, p.2.2.1 - 2 ^ i, p.2.2.2) else none)
  else (if 2 ^ j ≤ p.2.2.2 then some (p.1, p.2.1 - 2 ^ j, p.2.2.1, p.2.2.2 - 2 ^ j) else none)
def areaP : Option P4 → Nat
  | none => 0
  | some p => wP p * hP p
def InO (l : List Bool) (o : Option P4) : Prop := ∀ p, o = some p → InBlk l p
/-- a count over a part, where the property is asked of the cells of the block -/
def cntP (P : Nat → Nat → Bool) (p : P4) : Nat := cntB P p.1 p.2.1 (wP p) (hP p)
def cntO (P : Nat → Nat → Bool) : Option P4 → Nat
  | none => 0
  | some p => cntP P p
def shX (b : Bool) (i : Nat) : Nat := if b = true then 2 ^ i else 0
def shY (b : Bool) (j : Nat) : Nat := if b = true then 0 else 2 ^ j
/-- how many cells of a part have keys that are less -/
def lessO (r : List Bool) (o : Option P4) (k : Nat) : Nat := cntO (fun x y => decide (keyL r x y < k)) o
/-- a key of a part -/
def keyIn (r : List Bool) (o : Option P4) (K : Nat) : Prop := ∃ p x y, o = some p ∧ p.1 ≤ x ∧ x ≤ p.2.2.1 ∧ p.2.1 ≤ y ∧ y ≤ p.2.2.2 ∧ keyL r x y = K
end Lk

set_option linter.all false
namespace Lk
/-! ### blocks of keys -/
/-- the key is one of the box -/
def inK (l : List Bool) (p : P4) (K : Nat) : Prop := p.1 ≤ xOf l K ∧ xOf l K ≤ p.2.2.1 ∧ p.2.1 ≤ yOf l K ∧ yOf l K ≤ p.2.2.2
instance (l : List Bool) (p : P4) (K : Nat) : Decidable (inK l p K) := by unfold inK; infer_instance
/-- a stretch is whole, or touched -/
def whole (l : List Bool) (p : P4) (t m : Nat) : Prop := ∀ r, r < 2 ^ t → inK l p (m * 2 ^ t + r)
def touched (l : List Bool) (p : P4) (t m : Nat) : Prop := ∃ r, r < 2 ^ t ∧ inK l p (m * 2 ^ t + r)
end Lk

set_option Elab.async false
set_option linter.all false
set_option maxRecDepth 100000
set_option maxHeartbeats 4000000
namespace Lk
open PySem PySem.Spec PyProof.Rows L2
/-! ### keys and cells, more -/
/-! ### a sorted list of all numbers of a range -/
/-- the keys of the cells, column after column -/
def keyAt (l : List Bool) (c : Nat) : Int := ((keyL l (c / 2 ^ ny l) (c % 2 ^ ny l) : Nat) : Int)
/-! ### a word backwards -/
/-! ### heaps, more -/
@[elab_as_elim] theorem to_any2 {p : Hp → Prop} {H H' : Hp} (q : Hp → Prop) (e : Same H H') (h : q H') (k : ∀ H2, Same H H2 → q H2 → p H2) : p H' := k H' e h
def CellsAt (r : Addr) (l : List Bool) (H : Hp) (ts : List Addr) : Prop := ∀ t ∈ ts, t ≠ r ∧ ∃ X Y : Nat, X < 2 ^ nx l ∧ Y < 2 ^ ny l ∧ H t = some (.tup [.int X, .int Y])
theorem CellsAt.but {r : Addr} {l : List Bool} {H H' : Hp} {ts : List Addr} (b : But r H H') (h : CellsAt r l H ts) : CellsAt r l H' ts := fun t ht => by
  obtain ⟨h1, X, Y, hX, hY, k⟩ := h t ht
  exact ⟨h1, X, Y, hX, hY, b _ _ h1 k⟩
theorem CellsAt.nil {r : Addr} {l : List Bool} {H : Hp} : CellsAt r l H [] := fun t ht => absurd ht List.not_mem_nil
theorem CellsAt.cons {r t : Addr} {l : List Bool} {H : Hp} {ts : List Addr} {X Y : Nat} (n : t ≠ r) (hX : X < 2 ^ nx l) (hY : Y < 2 ^ ny l) (k : H t = some (.tup [.int X, .int Y])) (h : CellsAt r l H ts) : CellsAt r l H (t :: ts) := fun u hu => by
  rcases List.mem_cons.mp hu with e | e
  · rw [e]
    exact ⟨n, X, Y, hX, hY, k⟩
  · exact h u e
theorem CellsAt.app {r : Addr} {l : List Bool} {H : Hp} {ts us : List Addr} (h : CellsAt r l H ts) (h' : CellsAt r l H us) : CellsAt r l H (ts ++ us) := fun u hu => by
  rcases List.mem_append.mp hu with e | e
  · exact h u e
  · exact h' u e
/-! ### built-in types and own classes -/
/-! ### lists of numbers as data -/
end Lk

set_option Elab.async false
set_option linter.all false
set_option maxRecDepth 100000
set_option maxHeartbeats 4000000
namespace Lk
open PySem PySem.Spec PyProof.Rows L2
/-! ### counting multiples -/
def cmI (d : Nat) (lo hi : Int) : Int := if hi < lo then 0 else hi / 2 ^ d - (lo - 1) / 2 ^ d
def bordI (d : Nat) (lo hi : Int) : Int := cmI d (lo + 1) hi - cmI (d + 1) (lo + 1) hi
def spanI (d : Nat) (lo hi : Int) : Int := cmI d lo (hi - 2 ^ d + 1)
def mlt (d lo n : Nat) : Nat := (List.range n).countP fun k => decide ((lo + k) % 2 ^ d = 0)
def oddm (d lo n : Nat) : Nat := (List.range n).countP fun k => decide ((lo + k) % 2 ^ (d + 1) = 2 ^ d)
/-- how many y of y1 .. y2 are multiples of 2 ^ d with y + 2 ^ d ≤ y2 + 1 -/
def full (d y1 y2 : Nat) : Nat := (List.range (y2 + 1 - y1)).countP fun k => decide ((y1 + k) % 2 ^ d = 0) && decide (y1 + k + 2 ^ d ≤ y2 + 1)
end Lk

set_option Elab.async false
set_option linter.all false
set_option maxRecDepth 100000
set_option maxHeartbeats 4000000
namespace Lk
open PySem PySem.Spec PyProof.Rows L2
/-! ### a key and the one before it -/
/-- the cell (x, y)'s key has the one before it in the box -/
structure Bx (l : List Bool) (x1 y1 x2 y2 : Nat) : Prop where
  x : x1 ≤ x2
  y : y1 ≤ y2
  bx : x2 < 2 ^ nx l
  by_ : y2 < 2 ^ ny l
def InB (x1 y1 x2 y2 x y : Nat) : Prop := x1 ≤ x ∧ x ≤ x2 ∧ y1 ≤ y ∧ y ≤ y2
def HasPre (l : List Bool) (x1 y1 x2 y2 K : Nat) : Prop := ∃ x y, InB x1 y1 x2 y2 x y ∧ keyL l x y + 1 = K
end Lk

set_option Elab.async false
set_option linter.all false
set_option maxRecDepth 100000
set_option maxHeartbeats 4000000
namespace Lk
open PySem PySem.Spec PyProof.Rows L2
/-! ### the keys of a box -/
def boxN (l : List Bool) (x1 y1 w h : Nat) : List Nat := (List.range w).flatMap fun a => (List.range h).map fun b => keyL l (x1 + a) (y1 + b)
theorem boxN_succ (l : List Bool) (x1 y1 w h : Nat) : boxN l x1 y1 (w + 1) h = boxN l x1 y1 w h ++ (List.range h).map fun b => keyL l (x1 + w) (y1 + b) := by
  unfold boxN
  rw [List.range_succ, List.flatMap_append, List.flatMap_singleton]
theorem boxN_len (l : List Bool) (x1 y1 h : Nat) : ∀ w, (boxN l x1 y1 w h).length = w * h
  | 0 => by rw [Nat.zero_mul]; rfl
  | w + 1 => by rw [boxN_succ, List.length_append, boxN_len l x1 y1 h w, List.length_map, List.length_range, Nat.succ_mul]
theorem boxN_mem {l : List Bool} {x1 y1 w h K : Nat} : K ∈ boxN l x1 y1 w h ↔ ∃ a b, a < w ∧ b < h ∧ keyL l (x1 + a) (y1 + b) = K := by
  unfold boxN
  rw [List.mem_flatMap]
  constructor
  · rintro ⟨a, ha, h2⟩
    obtain ⟨b, hb, e⟩ := List.mem_map.mp h2
    exact ⟨a, b, List.mem_range.mp ha, List.mem_range.mp hb, e⟩
  · rintro ⟨a, b, ha, hb, e⟩
    exact ⟨a, List.mem_range.mpr ha, List.mem_map.mpr ⟨b, List.mem_range.mpr hb, e⟩⟩
/-! ### neighbours in a list -/
def pred (ks : List Nat) (K : Nat) : Bool := ks.any fun k => decide (k + 1 = K)
/-- how many of the list's items are one more than the item before, and as p asks -/
def adj (p : Nat → Bool) : List Nat → Nat
  | [] => 0
  | [_] => 0
  | a :: b :: r => (if decide (b = a + 1) && p b then 1 else 0) + adj p (b :: r)
/-! ### what a letter saves -/
def savI (b : Bool) (i j : Nat) (x1 y1 x2 y2 : Nat) : Int := if b = true then bordI i x1 x2 * spanI j y1 y2 else bordI j y1 y2 * spanI i x1 x2
def savL (l : List Bool) (x1 y1 x2 y2 : Nat) : List Int := (feetL l).map fun f => savI f.1 f.2.1 f.2.2 x1 y1 x2 y2
end Lk

set_option Elab.async false
set_option linter.all false
set_option maxRecDepth 100000
set_option maxHeartbeats 4000000
namespace Lk
open PySem PySem.Spec PyProof.Rows L2
/-! ### ranks -/
/-! ### from sorted ints to naturals -/
/-! ### the counts of the letters, pair by pair -/
def pT (n t : Nat) (K : Nat) : Bool := decide (K % 2 ^ (n - 1 - t + 1) = 2 ^ (n - 1 - t))
def dueL (n : Nat) (ks : List Nat) (i : Nat) : List Int := (List.range n).map fun t => ((adj (pT n t) (ks.take (i + 1)) : Nat) : Int)
end Lk

set_option Elab.async false
set_option linter.all false
set_option maxRecDepth 100000
set_option maxHeartbeats 4000000
namespace Lk
open PySem PySem.Spec PyProof.Rows L2
/-! ### all letters together -/
/-! ### the least and the greatest key -/
/-! ### the whole grid -/
/-! ### stretches -/
/-! ### pairs as they stand -/
def TupsAt (H : Hp) : List Addr → List (Int × Int) → Prop
  | [], [] => True
  | t :: ts, p :: ps => H t = some (.tup [.int p.1, .int p.2]) ∧ TupsAt H ts ps
  | _, _ => False
theorem TupsAt.imp {H H' : Hp} (e : ∀ t a b, H t = some (.tup [.int a, .int b]) → H' t = some (.tup [.int a, .int b])) : ∀ {ts : List Addr} {ps : List (Int × Int)}, TupsAt H ts ps → TupsAt H' ts ps
  | [], [], _ => True.intro
  | t :: ts, p :: ps, h => ⟨e _ _ _ h.1, TupsAt.imp e h.2⟩
  | [], _ :: _, h => h.elim
  | _ :: _, [], h => h.elim
theorem TupsAt.snoc {H : Hp} {t : Addr} {p : Int × Int} (ht : H t = some (.tup [.int p.1, .int p.2])) : ∀ {ts : List Addr} {ps : List (Int × Int)}, TupsAt H ts ps → TupsAt H (ts ++ [t]) (ps ++ [p])
  | [], [], _ => ⟨ht, True.intro⟩
  | _ :: _, _ :: _, h => ⟨h.1, TupsAt.snoc ht h.2⟩
  | [], _ :: _, h => h.elim
  | _ :: _, [], h => h.elim
theorem TupsAt.len {H : Hp} : ∀ {ts : List Addr} {ps : List (Int × Int)}, TupsAt H ts ps → ts.length = ps.length
  | [], [], _ => rfl
  | _ :: _, _ :: _, h => congrArg (· + 1) (TupsAt.len h.2)
  | [], _ :: _, h => h.elim
  | _ :: _, [], h => h.elim
end Lk

set_option Elab.async false
set_option linter.all false
set_option maxRecDepth 100000
set_option maxHeartbeats 4000000
namespace Lk
open PySem PySem.Spec PyProof.Rows L2
/-! ### ranks and listed keys -/
/-- the keys of a box, row by row -/
def boxR (l : List Bool) (x1 y1 w h : Nat) : List Nat := (List.range h).flatMap fun b => (List.range w).map fun a => keyL l (x1 + a) (y1 + b)
/-- the sorted keys of a box -/
def Sorts (l : List Bool) (x1 y1 x2 y2 : Nat) (ks : List Nat) : Prop := ks.Pairwise (· < ·) ∧ ks.Perm (boxN l x1 y1 (x2 + 1 - x1) (y2 + 1 - y1))
theorem Sorts.len {l : List Bool} {x1 y1 x2 y2 : Nat} {ks : List Nat} (h : Sorts l x1 y1 x2 y2 ks) : ks.length = (x2 + 1 - x1) * (y2 + 1 - y1) := by rw [h.2.length_eq, boxN_len]
theorem Sorts.lt {l : List Bool} {x1 y1 x2 y2 : Nat} {ks : List Nat} (h : Sorts l x1 y1 x2 y2 ks) : ∀ k ∈ ks, k < 2 ^ l.length := fun k hk => by
  obtain ⟨u, v, _, _, e⟩ := boxN_mem.mp (h.2.mem_iff.mp hk)
  rw [← e]
  exact keyL_lt l _ _
def lessN (ks : List Nat) (k : Nat) : Nat := ks.countP fun K => decide (K < k)
end Lk

set_option linter.all false
namespace Lk
/-! ### the law's own draws: the turn comes at which a wanted digit is drawn -/
def mixF (c t : Int) : Int := (c % 2147483629 * 48271 + t * 69621 + 12345) % 2147483647
def mixS (c t : Int) : Int := (mixF c t * mixF c t + t * 40692) % 2147483587
def mixD (c t : Int) : Int := (mixF c t * 2147483587 + mixS c t) / 32
end Lk

set_option Elab.async false
set_option linter.all false
set_option maxRecDepth 100000
set_option maxHeartbeats 4000000
namespace Lk
open PySem PySem.Spec PyProof.Rows L2
/-! ### the bag of the draws -/
def BagX (H : Hp) (r : Addr) (a c k : Int) : Prop := H r = some (.lst [.int a, .int c, .int k])
def Bag (H : Hp) (r : Addr) : Prop := ∃ a c k : Int, BagX H r a c k ∧ 0 ≤ a
theorem Bag.same {H H' : Hp} {r : Addr} (e : Same H H') (h : Bag H r) : Bag H' r := by
  obtain ⟨a, c, k, h1, h2⟩ := h
  exact ⟨a, c, k, e _ _ h1, h2⟩
theorem Bag.ne {H : Hp} {r p : Addr} (h : Bag H r) (hp : H p = none) : p ≠ r := fun z => by
  obtain ⟨_, _, _, e, _⟩ := h
  rw [z, e] at hp
  cases hp
/-- what a pick gives -/
def pickV (a c k : Int) (many : Nat) : Int :=
  if 0 < a then a.fmod many else (if (many : Int) > 1000000000000000 then mixD c (k + 1) ^ 8 + mixS c (k + 1) else mixD c (k + 1)).fmod many
theorem mixF_b (c t : Int) : 0 ≤ mixF c t ∧ mixF c t < 2147483647 := ⟨Int.emod_nonneg _ (by decide), Int.emod_lt_of_pos _ (by decide)⟩
theorem mixS_b (c t : Int) : 0 ≤ mixS c t ∧ mixS c t < 2147483587 := ⟨Int.emod_nonneg _ (by decide), Int.emod_lt_of_pos _ (by decide)⟩
theorem mixD_b (c t : Int) : 0 ≤ mixD c t ∧ mixD c t < 288230376151711744 := by
  have h1 := mixF_b c t
  have h2 := mixS_b c t
  unfold mixD
  omega
def gw (u : Nat) : Nat := if u = 0 then 1 else 0
/-- how far it is to the wanted turn -/
def Far (a c k : Int) (u : Nat) (j : Nat) : Prop := j ≤ 4611685889393295289 ∧ (a = 0 → mixD c (k + 1 + 2 * (j : Int)) % 2 = (gw u : Int)) ∧ (0 < a → j = 4611685889393295289)
end Lk

set_option Elab.async false
set_option linter.all false
set_option maxRecDepth 100000
set_option maxHeartbeats 4000000
namespace Lk
open PySem PySem.Spec PyProof.Rows L2
/-! ### loops over a word -/
end Lk

set_option Elab.async false
set_option linter.all false
set_option maxRecDepth 100000
set_option maxHeartbeats 4000000
namespace Lk
open PySem PySem.Spec PyProof.Rows L2
/-! ### parts as they stand -/
def PartAt (H : Hp) (v : V) : Option P4 → Prop
  | none => v = .non
  | some p => ∃ a, v = .ref a ∧ H a = some (.tup [.int (p.1 : Nat), .int (p.2.1 : Nat), .int (p.2.2.1 : Nat), .int (p.2.2.2 : Nat)])
theorem PartAt.same {H H' : Hp} {v : V} {o : Option P4} (e : Same H H') (h : PartAt H v o) : PartAt H' v o := by
  cases o with
  | none => exact h
  | some p =>
    obtain ⟨a, h1, h2⟩ := h
    exact ⟨a, h1, e _ _ h2⟩
theorem PartAt.non {H : Hp} {v : V} {o : Option P4} (h : PartAt H v o) : decide (v = .non) = o.isNone := by
  cases o with
  | none => exact decide_eq_true h
  | some p =>
    obtain ⟨a, rfl, h2⟩ := h
    exact decide_eq_false (by intro z; cases z)
end Lk

set_option Elab.async false
set_option linter.all false
set_option maxRecDepth 100000
set_option maxHeartbeats 4000000
namespace Lk
open PySem PySem.Spec PyProof.Rows L2
/-! ### any box: its keys in order, its runs -/
def sortB (l : List Bool) (x1 y1 x2 y2 : Nat) : List Nat := (List.range' 0 (2 ^ l.length)).filter fun k => (boxN l x1 y1 (x2 + 1 - x1) (y2 + 1 - y1)).contains k
def runsZ (l : List Bool) (x1 y1 x2 y2 : Nat) : Int := (((x2 + 1 - x1) * (y2 + 1 - y1) : Nat) : Int) - (savL l x1 y1 x2 y2).sum
/-- how many cells of the box have a neighbour before them in the box -/
def nb (l : List Bool) (x1 y1 x2 y2 : Nat) : Nat := (boxN l x1 y1 (x2 + 1 - x1) (y2 + 1 - y1)).countP fun K => pred (boxN l x1 y1 (x2 + 1 - x1) (y2 + 1 - y1)) K
/-! ### a box cut in two -/
/-! ### rows and columns -/
def savS (l : List Bool) (x1 y1 x2 y2 : Nat) : Int := (savL l x1 y1 x2 y2).sum
end Lk

set_option Elab.async false
set_option linter.all false
set_option maxRecDepth 100000
set_option maxHeartbeats 4000000
namespace Lk
open PySem PySem.Spec PyProof.Rows L2
end Lk

set_option Elab.async false
set_option linter.all false
set_option maxRecDepth 100000
set_option maxHeartbeats 4000000
namespace Lk
open PySem PySem.Spec PyProof.Rows L2
/-! ### repr of lists of pairs -/
def pairD (p : Int × Int) : PyData := .tuple [.int p.1, .int p.2]
/-! ### a comprehension that makes pairs -/
def AccT (A : Addr) (H0 Hc : Hp) (ps : List (Int × Int)) : Prop := But A H0 Hc ∧ ∃ ts : List Addr, Hc A = some (.lst (ts.map V.ref)) ∧ TupsAt Hc ts ps
theorem AccT.nil {A : Addr} {H0 : Hp} : AccT A H0 (upd H0 A (.lst [])) [] := ⟨But.upd, [], upd_same, True.intro⟩
theorem AccT.snoc {A : Addr} {H0 Hc H' : Hp} {ps : List (Int × Int)} {t : Addr} {a b : Int} (h : AccT A H0 Hc ps) (e : Same Hc H') (kt : H' t = some (.tup [.int a, .int b])) :
    ∃ acc, H' A = some (.lst acc) ∧ acc.length = ps.length ∧ AccT A H0 (upd H' A (.lst (acc ++ [.ref t]))) (ps ++ [(a, b)]) := by
  obtain ⟨b0, ts, hA, hT⟩ := h
  have hA' := e _ _ hA
  have keep : ∀ (u : Addr) (x y : Int), H' u = some (.tup [.int x, .int y]) → (upd H' A (.lst (ts.map V.ref ++ [.ref t]))) u = some (.tup [.int x, .int y]) := fun u x y hu => by
    rw [upd_ne (fun z => by rw [z, hA'] at hu; cases hu)]
    exact hu
  refine ⟨_, hA', by rw [List.length_map, hT.len], But.trans (b0.trans (Same.but e)) But.upd, ts ++ [t], ?_, TupsAt.snoc (keep _ _ _ kt) (TupsAt.imp (fun u x y hu => keep _ _ _ (e _ _ hu)) hT)⟩
  rw [upd_same, List.map_append]
  rfl
def cellP (l : List Bool) (k : Nat) : Int × Int := (((xOf l k : Nat) : Int), ((yOf l k : Nat) : Int))
end Lk
namespace Lk
open PySem PySem.Spec PyProof.Rows L2
end Lk

set_option Elab.async false
set_option linter.all false
set_option maxRecDepth 100000
set_option maxHeartbeats 4000000
namespace Lk
open PySem PySem.Spec PyProof.Rows L2
/-! ### counting blocks -/
instance (l : List Bool) (p : P4) (t m : Nat) : Decidable (whole l p t m) := by unfold whole; exact Nat.decidableBallLT _ _
/-- whole stretches of 2 ^ s keys within the m-th of 2 ^ t -/
def wc (l : List Bool) (p : P4) (s t m : Nat) : Nat := (List.range (2 ^ (t - s))).countP fun r => decide (whole l p s (m * 2 ^ (t - s) + r))
/-- how many greatest whole stretches of 2 ^ s keys -/
def gr (l : List Bool) (p : P4) (t m s : Nat) : Nat := wc l p s t m - 2 * (if s + 1 ≤ t then wc l p (s + 1) t m else 0)
/-- the greatest whole stretches, by halves -/
def strL (l : List Bool) (p : P4) : Nat → Nat → List (Nat × Nat)
  | 0, m => if whole l p 0 m then [(m, 0)] else []
  | t + 1, m => if whole l p (t + 1) m then [(m * 2 ^ (t + 1), t + 1)] else strL l p t (2 * m) ++ strL l p t (2 * m + 1)
end Lk

set_option Elab.async false
set_option linter.all false
set_option maxRecDepth 100000
set_option maxHeartbeats 4000000
namespace Lk
open PySem PySem.Spec PyProof.Rows L2
def shapeP (l : List Bool) : List (Int × Int) := (List.range (l.length + 1)).map fun t => (((nx (l.drop (l.length - t)) : Nat) : Int), ((ny (l.drop (l.length - t)) : Nat) : Int))
def footP (l : List Bool) : List (Int × Int) := (List.range l.length).map fun k => (((nx (l.drop (k + 1)) : Nat) : Int), ((ny (l.drop (k + 1)) : Nat) : Int))
theorem TupsAt.get {H : Hp} : ∀ {ts : List Addr} {ps : List (Int × Int)} {k : Nat} {p : Int × Int}, TupsAt H ts ps → ps[k]? = some p → ∃ t, ts[k]? = some t ∧ H t = some (.tup [.int p.1, .int p.2])
  | [], [], _, _, _, h => by simp at h
  | [], _ :: _, _, _, h, _ => h.elim
  | _ :: _, [], _, _, h, _ => h.elim
  | t :: ts, p :: ps, 0, q, h, e => by
    cases e
    exact ⟨t, rfl, h.1⟩
  | t :: ts, p :: ps, k + 1, q, h, e => TupsAt.get (k := k) h.2 e
/-- the numbers of whole stretches, by bits -/
def wcL (l : List Bool) (p : P4) : List Int := (List.range (l.length + 1)).map fun t => ((wc l p t l.length 0 : Nat) : Int)
def grL (l : List Bool) (p : P4) : List Int := (List.range (l.length + 1)).map fun t => ((gr l p l.length 0 t : Nat) : Int)
def sizeP (l : List Bool) (p : P4) : List (Int × Int) := ((List.range (l.length + 1)).filter fun t => decide (0 < gr l p l.length 0 t)).map fun t => (((t : Nat) : Int), ((gr l p l.length 0 t : Nat) : Int))
def abL (l : List Bool) (p : P4) : List Int := (wcL l p).drop 1 ++ [0]
def sizeU (l : List Bool) (p : P4) (k : Nat) : List (Int × Int) := ((List.range k).filter fun t => decide (0 < gr l p l.length 0 t)).map fun t => (((t : Nat) : Int), ((gr l p l.length 0 t : Nat) : Int))
def wbL (l : List Bool) (p : P4) (K k : Nat) : List Int := ((List.range k).filter fun t => decide (whole l p t (K / 2 ^ t))).map fun t => ((t : Nat) : Int)
end Lk

set_option Elab.async false
set_option linter.all false
set_option maxRecDepth 100000
set_option maxHeartbeats 4000000
namespace Lk
open PySem PySem.Spec PyProof.Rows L2
/-! ### the law's own stretches -/
def boL (l : List Bool) (p : P4) : List Bool := (List.range (2 ^ l.length)).map fun k => decide (inK l p k)
def ptL (l : List Bool) (p : P4) (t m : Nat) : List Bool := (List.range (2 ^ t)).map fun r => decide (inK l p (m * 2 ^ t + r))
def strP (es : List (Nat × Nat)) : List (Int × Int) := es.map fun e => (((e.1 : Nat) : Int), ((e.2 : Nat) : Int))
theorem TupsAt.app {H : Hp} : ∀ {ts us : List Addr} {ps qs : List (Int × Int)}, TupsAt H ts ps → TupsAt H us qs → TupsAt H (ts ++ us) (ps ++ qs)
  | [], _, [], _, _, h => h
  | [], _, _ :: _, _, h, _ => h.elim
  | _ :: _, _, [], _, h, _ => h.elim
  | t :: ts, us, p :: ps, qs, h, h' => ⟨h.1, TupsAt.app h.2 h'⟩
def memL (ks : List Nat) (i N : Nat) : List Bool := (List.range N).map fun k => decide (k ∈ ks.take i)
def hasK (k : Nat) (e : Nat × Nat) : Bool := decide (e.1 ≤ k) && decide (k < e.1 + 2 ^ e.2)
def spL (es : List (Nat × Nat)) (k j : Nat) : List (Int × Int) := ((es.take j).filter (hasK k)).map fun e => (((e.1 : Nat) : Int), ((e.1 + 2 ^ e.2 - 1 : Nat) : Int))
end Lk

set_option Elab.async false
set_option linter.all false
set_option maxRecDepth 100000
set_option maxHeartbeats 4000000
namespace Lk
open PySem PySem.Spec PyProof.Rows L2
/-! ### one def, two promises: it answers, or it raises -/
section
variable {P : Program} {w : World} {K : PySem.W.Frag} {mg : Str → Option Value} {base : Heap} {k : Nat} {f : Addr} {fd : FuncData} {ps : List Str} {CX : CXT} {sp1 sp2 : Sp}
theorem either (G : FnOk P w K mg base CX0 k f fd ps sp1) (B : FnOk P w K mg base CX k f fd ps sp2) : FnOk P w K mg base CX k f fd ps (fun vs H Q E => sp1 vs H Q E ∨ sp2 vs H Q E) := by
  refine ⟨fun vs H Q E h => h.elim (fun h => G.len vs H Q E h) (fun h => B.len vs H Q E h), fun A outer s H args us vs Q E hr e hb hv h => ?_⟩
  rcases h with h | h
  · refine codeAny_mono (G.run A outer s H args us vs Q E hr e hb hv h) fun r s' q => ?_
    rcases r with e | fl
    · exact q.elim
    · cases fl <;> exact q
  · exact B.run A outer s H args us vs Q E hr e hb hv h
end
/-! ### repr of any value that is plain -/
inductive ReprV (K : PySem.W.Frag) (H : Hp) : V → Str → Prop
  | data {a : Addr} {d : PyData} : Dp K H (.ref a) d → d.showable = true → d.hasDict = false → d.depth ≤ 8 → d.shown.length ≤ sizeLine → ReprV K H (.ref a) d.shown
  | non : ReprV K H .non "None"
  | bl (b : Bool) : ReprV K H (.bl b) (if b then "True" else "False")
  | int (i : Int) : i.natAbs.log2 < 1920 → ReprV K H (.int i) (toString i)
  | str (x : Str) : (reprText x).length ≤ sizeLine → ReprV K H (.str x) (reprText x)
  | dict {a : Addr} : H a = some (.dK []) → ReprV K H (.ref a) (PyData.dict []).shown
def rReprV (K : PySem.W.Frag) : List V → Hp → VK → Prop := fun xs H Q => ∃ (v : V) (x : Str), xs = [v] ∧ ReprV K H v x ∧ Q (.str x) H
theorem Same.seqL {K : PySem.W.Frag} {H H' : Hp} {a : Addr} {xs : List V} (e : Same H H') (h : SqL K H a xs) : SqL K H' a xs := by
  rcases h with (h | ⟨o, h⟩) | h
  · exact .inl (.inl (e _ _ h))
  · exact .inl (.inr ⟨o, e _ _ h⟩)
  · exact .inr h
mutual
theorem dp_same {K : PySem.W.Frag} {H H' : Hp} (s : Same H H') : ∀ (d : PyData) (v : V), Dp K H v d → Dp K H' v d
  | .none, _, h => by cases h; exact .non
  | .bool b, _, h => by cases h; exact .bl b
  | .int i, _, h => by cases h; exact .int i
  | .str x, _, h => by cases h; exact .str x
  | .list ds, _, h => by
    cases h with
    | lst hs ha => exact .lst (Same.seqL s hs) (dp_sameA s ds _ ha)
  | .tuple ds, _, h => by
    cases h with
    | tup hs ha => exact .tup (Same.seqT s hs) (dp_sameA s ds _ ha)
  | .dict _, _, h => by cases h
theorem dp_sameA {K : PySem.W.Frag} {H H' : Hp} (s : Same H H') : ∀ (ds : List PyData) (vs : List V), DpAll K H vs ds → DpAll K H' vs ds
  | [], _, h => by cases h; exact .nil
  | d :: ds, _, h => by
    cases h with
    | cons h1 h2 => exact .cons (dp_same s d _ h1) (dp_sameA s ds _ h2)
end
theorem ReprV.same {K : PySem.W.Frag} {H H' : Hp} {v : V} {x : Str} (s : Same H H') (h : ReprV K H v x) : ReprV K H' v x := by
  cases h with
  | data hd h1 h2 h3 h4 => exact .data (dp_same s _ _ hd) h1 h2 h3 h4
  | non => exact .non
  | bl b => exact .bl b
  | int i hi => exact .int i hi
  | str y hy => exact .str y hy
  | dict ha => exact .dict (s _ _ ha)
/-! ### values that are none -/
/-- x is an integer and no bool, or it is not: b -/
def IsI (K : PySem.W.Frag) (H : Hp) (x : V) (b : Bool) : Prop := ∃ t b1 b2, TyX K H x t ∧ PySem.W.kitOne K t (.type "int") = some b1 ∧ PySem.W.kitOne K t (.type "bool") = some b2 ∧ b = (b1 && !b2)
/-- no tuple of m integers -/
def NotInts (K : PySem.W.Frag) (H : Hp) (v : V) (m : Nat) : Prop :=
  (∃ t, TyX K H v t ∧ PySem.W.kitOne K t (.type "tuple") = some false) ∨
    ∃ (a : Addr) (xs : List V), v = .ref a ∧ H a = some (.tup xs) ∧ xs.length ≤ 100 ∧ (xs.length ≠ m ∨ ∃ bs : List Bool, bs.length = xs.length ∧ (∀ i x, xs[i]? = some x → IsI K H x (bs.getD i false)) ∧ bs.all id = false)
/-- no box of the grid of n and m bits -/
def NotBox (K : PySem.W.Frag) (H : Hp) (v : V) (n m : Nat) : Prop :=
  NotInts K H v 4 ∨ ∃ (a : Addr) (x1 y1 x2 y2 : Int), v = .ref a ∧ H a = some (.tup [.int x1, .int y1, .int x2, .int y2]) ∧ x1.natAbs < 2 ^ 1000 ∧ ¬ (0 ≤ x1 ∧ x1 ≤ x2 ∧ x2 < ((2 ^ n : Nat) : Int) ∧ 0 ≤ y1 ∧ y1 ≤ y2 ∧ y2 < ((2 ^ m : Nat) : Int))
section
variable {K : PySem.W.Frag} {H H' : Hp}
theorem TyX.same (s : Same H H') {v : V} {t : Value} (h : TyX K H v t) : TyX K H' v t := by
  cases h with
  | base b =>
    refine .base ?_
    cases b with
    | non => exact .non
    | bl x => exact .bl x
    | int i => exact .int i
    | str x => exact .str x
    | flt x => exact .flt x
    | lst e => exact .lst (s _ _ e)
    | frz e => exact .frz (s _ _ e)
    | tup e => exact .tup (s _ _ e)
    | dK e => exact .dK (s _ _ e)
    | dT e => exact .dT (s _ _ e)
    | ins e cl ha hn htk hm => exact .ins (s _ _ e) cl ha hn htk hm
  | byt b => exact .byt b
  | set e => exact .set (s _ _ e)
  | kList e c => exact .kList e c
  | kTuple e c => exact .kTuple e c
  | kDict e c => exact .kDict e c
  | fTuple e => exact .fTuple (s _ _ e)
  | fDict e => exact .fDict (s _ _ e)
theorem IsI.same (s : Same H H') {v : V} {b : Bool} (h : IsI K H v b) : IsI K H' v b := by
  obtain ⟨t, b1, b2, h1, h2⟩ := h
  exact ⟨t, b1, b2, Lk.TyX.same s h1, h2⟩
theorem NotInts.same (s : Same H H') {v : V} {m : Nat} (h : NotInts K H v m) : NotInts K H' v m := by
  rcases h with ⟨t, h1, h2⟩ | ⟨a, xs, h1, h2, h3, h4⟩
  · exact .inl ⟨t, Lk.TyX.same s h1, h2⟩
  · refine .inr ⟨a, xs, h1, s _ _ h2, h3, ?_⟩
    rcases h4 with h4 | ⟨bs, h4, h5, h6⟩
    · exact .inl h4
    · exact .inr ⟨bs, h4, fun i x e => IsI.same s (h5 i x e), h6⟩
theorem NotBox.same (s : Same H H') {v : V} {n m : Nat} (h : NotBox K H v n m) : NotBox K H' v n m := by
  rcases h with h | ⟨a, x1, y1, x2, y2, h1, h2, h3⟩
  · exact .inl (NotInts.same s h)
  · exact .inr ⟨a, x1, y1, x2, y2, h1, s _ _ h2, h3⟩
end
/-! ### small data: its text is short -/
def Lf (k w : Nat) (d : PyData) : Prop := d.showable = true ∧ d.hasDict = false ∧ d.depth ≤ k ∧ d.leavesShort 224 = true ∧ d.weight ≤ w
theorem Lf.mono {k w k' w' : Nat} {d : PyData} (h : Lf k w d) (hk : k ≤ k') (hw : w ≤ w') : Lf k' w' d := ⟨h.1, h.2.1, Nat.le_trans h.2.2.1 hk, h.2.2.2.1, Nat.le_trans h.2.2.2.2 hw⟩
theorem Lf.rp {k w : Nat} {d : PyData} (h : Lf k w d) (hk : k ≤ 8) (hw : w ≤ 70000) : RpOk d := by
  obtain ⟨a1, a2, a3, a4, a5⟩ := h
  refine ⟨a1, a2, by omega, ?_⟩
  have s := PyData.shown_le 224 (by decide) d a4
  have : sizeLine = 16777216 := sizeLine_eq
  omega
theorem Lf.repr {K : PySem.W.Frag} {H : Hp} {a : Addr} {k w : Nat} {d : PyData} (h : Lf k w d) (hk : k ≤ 8) (hw : w ≤ 70000) (hd : Dp K H (.ref a) d) : ∃ x, ReprV K H (.ref a) x := by
  obtain ⟨h1, h2, h3, h4⟩ := h.rp hk hw
  exact ⟨_, .data hd h1 h2 h3 h4⟩
/-! ### a heap that grows beside a list that changes: what is told stands in G, which has no such list -/
structure Beside (F : Addr) (H0 G Hc : Hp) : Prop where
  free : G F = none
  old : Same H0 G
  now : Same G Hc
namespace Beside
variable {F p : Addr} {H0 G Hc : Hp} {o : HO}
theorem new (b : Beside F H0 G Hc) (hF : Hc F ≠ none) (hp : Hc p = none) : Beside F H0 (upd G p o) (upd Hc p o) := by
  have gp : G p = none := by
    cases e : G p with
    | none => rfl
    | some u => rw [b.now _ _ e] at hp; cases hp
  have pF : F ≠ p := fun z => hF (z ▸ hp)
  refine ⟨by rw [upd_ne pF]; exact b.free, fun c u h => ?_, fun c u h => ?_⟩
  · have h2 := b.old c u h
    rw [upd_ne (fun z => by rw [z, gp] at h2; cases h2)]
    exact h2
  · by_cases hc : c = p
    · subst hc
      rw [upd_same] at h ⊢
      exact h
    · rw [upd_ne hc] at h ⊢
      exact b.now c u h
theorem put (b : Beside F H0 G Hc) : Beside F H0 G (upd Hc F o) := ⟨b.free, b.old, fun c u h => by
  rw [upd_ne (fun z => by rw [z, b.free] at h; cases h)]
  exact b.now c u h⟩
end Beside
end Lk

set_option Elab.async false
set_option linter.all false
set_option maxRecDepth 100000
set_option maxHeartbeats 4000000
namespace Lk
/-! blocks and pages: what the great law of blocks asks -/
/-- pages -/
def metC (i a b : Nat) : Nat := b / 2 ^ i - a / 2 ^ i + 1
end Lk

set_option linter.all false
namespace Lk
/-! ### how many cells of a box lie in a stretch of keys -/
end Lk

set_option Elab.async false
set_option linter.all false
set_option maxRecDepth 100000
set_option maxHeartbeats 4000000
namespace Lk
/-! ### boxes together: their cells, each once, and the runs of these -/
def inb (l : List Bool) (p : P4) (K : Nat) : Bool := decide (p.1 ≤ xOf l K ∧ xOf l K ≤ p.2.2.1 ∧ p.2.1 ≤ yOf l K ∧ yOf l K ≤ p.2.2.2)
def b2i (b : Bool) : Int := if b = true then 1 else 0
def sumN (f : Nat → Int) (N : Nat) : Int := ((List.range N).map f).sum
/-! #### what boxes have in common, with signs -/
def comP (p q : P4) : Option P4 :=
  if max p.1 q.1 ≤ min p.2.2.1 q.2.2.1 ∧ max p.2.1 q.2.1 ≤ min p.2.2.2 q.2.2.2 then some (max p.1 q.1, max p.2.1 q.2.1, min p.2.2.1 q.2.2.1, min p.2.2.2 q.2.2.2) else none
abbrev SP := Int × P4
def sharedP (ps : List SP) (b : P4) : List SP := ps.filterMap fun sp => (comP sp.2 b).map fun c => (-sp.1, c)
def stepP (ps : List SP) (b : P4) : List SP := ps ++ [(1, b)] ++ sharedP ps b
def partsP (bs : List P4) : List SP := bs.foldl stepP []
def sgP (l : List Bool) (ps : List SP) (K : Nat) : Int := (ps.map fun sp => sp.1 * b2i (inb l sp.2 K)).sum
def inU (l : List Bool) (bs : List P4) (K : Nat) : Bool := bs.any fun b => inb l b K
def GoodP (l : List Bool) (ps : List SP) : Prop := ∀ sp ∈ ps, InBlk l sp.2 ∧ (sp.1 = 1 ∨ sp.1 = -1)
/-- the cells of the boxes -/
def cU (l : List Bool) (bs : List P4) : Nat := (List.range (2 ^ l.length)).countP fun K => inU l bs K
/-! #### cells whose key ahead is in another box -/
def oddI (d : Nat) (lo hi : Int) : Int := cmI d lo hi - cmI (d + 1) lo hi
def joinI (b : Bool) (i j : Nat) (p q : P4) : Int :=
  let dx : Int := if b = true then 1 else 1 - 2 ^ i
  let dy : Int := if b = true then 1 - 2 ^ j else 1
  let X1 : Int := max (p.1 : Int) ((q.1 : Int) + dx)
  let Y1 : Int := max (p.2.1 : Int) ((q.2.1 : Int) + dy)
  let X2 : Int := min (p.2.2.1 : Int) ((q.2.2.1 : Int) + dx)
  let Y2 : Int := min (p.2.2.2 : Int) ((q.2.2.2 : Int) + dy)
  if X1 ≤ X2 ∧ Y1 ≤ Y2 then (if b = true then oddI i X1 X2 * cmI j Y1 Y2 else oddI j Y1 Y2 * cmI i X1 X2) else 0
/-- cells of the boxes whose key ahead is one of the boxes, too -/
def jU (l : List Bool) (bs : List P4) : Nat := (List.range (2 ^ l.length)).countP fun K => inU l bs K && (decide (1 ≤ K) && inU l bs (K - 1))
/-- cells of the boxes that begin a run -/
def rU (l : List Bool) (bs : List P4) : Nat := (List.range (2 ^ l.length)).countP fun K => inU l bs K && !(decide (1 ≤ K) && inU l bs (K - 1))
/-! #### one box, and boxes with the same cells -/
end Lk

set_option Elab.async false
set_option linter.all false
set_option maxRecDepth 100000
set_option maxHeartbeats 4000000
namespace Lk
/-! ### the box of a block of keys -/
def blkP (l : List Bool) (t m : Nat) : P4 := (xOf l (m * 2 ^ t), yOf l (m * 2 ^ t), xOf l (m * 2 ^ t + (2 ^ t - 1)), yOf l (m * 2 ^ t + (2 ^ t - 1)))
end Lk

set_option Elab.async false
set_option linter.all false
set_option maxRecDepth 100000
set_option maxHeartbeats 4000000
namespace Lk
open PySem PySem.Spec
/-! ### words that put one cell ahead of another -/
/-- whether the letter x with the digit i is ahead of the letter y with the digit j -/
def firstX : List Bool → Nat → Nat → Bool
  | [], _, _ => false
  | true :: r, i, j => if nx r = i then true else firstX r i j
  | false :: r, i, j => if ny r = j then false else firstX r i j
/-- i is the highest digit at which a and b differ -/
def Parts (a b i : Nat) : Prop := a / 2 ^ (i + 1) = b / 2 ^ (i + 1) ∧ a / 2 ^ i % 2 ≠ b / 2 ^ i % 2
/-- all words of so many letters, as the law makes them -/
def stepW (n m : Nat) (ws : List (List Bool)) : List (List Bool) := (ws.filter fun w => decide (nx w < n)).map (fun w => w ++ [true]) ++ (ws.filter fun w => decide (ny w < m)).map (fun w => w ++ [false])
def wordsT (n m : Nat) : Nat → List (List Bool)
  | 0 => [[]]
  | t + 1 => stepW n m (wordsT n m t)
def formX (n m p q : Nat) : Int := ((List.range (q + 1)).map fun k : Nat => W.mcComb ((p : Int) + k) k * W.mcComb ((n : Int) - 1 - p + m - k) ((m : Int) - k)).sum
def aheadN (n m x1 y1 x2 y2 : Nat) : Nat := (wordsT n m (n + m)).countP fun w => decide (keyL w x1 y1 < keyL w x2 y2)
section
variable {n m x1 y1 x2 y2 : Nat} (hn : n < 5) (hm : m < 5) (h1 : x1 < 2 ^ n) (h2 : y1 < 2 ^ m) (h3 : x2 < 2 ^ n) (h4 : y2 < 2 ^ m)
include hn hm h1 h2 h3 h4
end
end Lk

set_option Elab.async false
set_option linter.all false
set_option maxRecDepth 100000
set_option maxHeartbeats 4000000
namespace Lk
/-! ### letters exchanged -/
def flipW (l : List Bool) : List Bool := l.map fun b => !b
def turnP (p : P4) : P4 := (p.2.1, p.1, p.2.2.2, p.2.2.1)
/-! ### signs over all common parts -/
def commW (way : Nat) : Nat → List P4 → Option P4 → Option P4
  | _, [], o => o
  | s, b :: bs, o => commW way (s + 1) bs (if way / 2 ^ s % 2 = 1 then o.bind fun p => comP p b else o)
def manyW (way : Nat) : Nat → List P4 → Nat
  | _, [] => 0
  | s, _ :: bs => way / 2 ^ s % 2 + manyW way (s + 1) bs
def prodB (way : Nat) : Nat → List Bool → Int
  | _, [] => 1
  | s, b :: bs => (if way / 2 ^ s % 2 = 1 then b2i b else 1) * prodB way (s + 1) bs
def indO (l : List Bool) (o : Option P4) (K : Nat) : Int := match o with
  | none => 0
  | some c => b2i (inb l c K)
def GoodO (l : List Bool) (o : Option P4) : Prop := ∀ c, o = some c → InBlk l c
def sgW (way : Nat) (bs : List P4) : Int := 2 * ((manyW way 0 bs : Nat) % 2 : Int) - 1
def areaO : Option P4 → Int
  | none => 0
  | some p => ((wP p * hP p : Nat) : Int)
abbrev bigP : P4 := (0, 0, 2 ^ 100, 2 ^ 100)
def sgB (way n : Nat) : Int := 2 * ((manyW way 0 (List.replicate n (0, 0, 0, 0)) : Nat) % 2 : Int) - 1
/-! ### a part of the grid and the rest -/
end Lk

set_option Elab.async false
set_option linter.all false
set_option maxRecDepth 100000
set_option maxHeartbeats 4000000
namespace Lk
/-! the blocks of a box one behind the other; its pages one behind the other -/
/-- the keys of a stretch within the box -/
def kyL (l : List Bool) (p : P4) (t m : Nat) : List Nat := (List.range' (m * 2 ^ t) (2 ^ t)).filter fun K => decide (inK l p K)
/-- the keys of stretches -/
def flE (es : List (Nat × Nat)) : List Nat := es.flatMap fun e => List.range' e.1 (2 ^ e.2)
abbrev SL (l : List Bool) (p : P4) : List (Nat × Nat) := strL l p l.length 0
/-- how many keys the first stretches have -/
def szE (es : List (Nat × Nat)) : Nat := (flE es).length
section
variable {l : List Bool} {p : P4} {es rest : List (Nat × Nat)} {e : Nat × Nat}
end
/-! how many blocks of each size -/
/-! pages -/
def tB (l : List Bool) (p : P4) (t m : Nat) : Bool := (decide (p.1 / 2 ^ nx (l.drop (l.length - t)) ≤ xOf (l.take (l.length - t)) m) && decide (xOf (l.take (l.length - t)) m < p.2.2.1 / 2 ^ nx (l.drop (l.length - t)) + 1)) && (decide (p.2.1 / 2 ^ ny (l.drop (l.length - t)) ≤ yOf (l.take (l.length - t)) m) && decide (yOf (l.take (l.length - t)) m < p.2.2.2 / 2 ^ ny (l.drop (l.length - t)) + 1))
abbrev TL (l : List Bool) (p : P4) (t : Nat) : List Nat := (List.range (2 ^ (l.length - t))).filter (tB l p t)
/-- the pages below one -/
def pgN (l : List Bool) (p : P4) (t P : Nat) : Nat := (TL l p t).countP fun m => decide (m < P)
end Lk

set_option Elab.async false
set_option linter.all false
set_option maxRecDepth 100000
set_option maxHeartbeats 4000000
namespace Lk
/-! ### boxes within the last letters of a word, moved by multiples of their grid's sides -/
def shP (pre s : List Bool) (m : Nat) (p : P4) : P4 := (xOf pre m * 2 ^ nx s + p.1, yOf pre m * 2 ^ ny s + p.2.1, xOf pre m * 2 ^ nx s + p.2.2.1, yOf pre m * 2 ^ ny s + p.2.2.2)
/-! ### the box that parts two words -/
def parP (s : List Bool) : P4 := (0, 0, 2 ^ (nx s + 1) - 1, 2 ^ ny s - 1)
end Lk
namespace Lk
/-! ### what else stays: keys, ranks, blocks, pages -/
end Lk
namespace Lk
/-! ### the corners of the parting box -/
end Lk

set_option Elab.async false
set_option linter.all false
set_option maxRecDepth 100000
set_option maxHeartbeats 4000000
open PySem
namespace Lk
def ch : Nat → Nat → Nat
  | _, 0 => 1
  | 0, _ + 1 => 0
  | n + 1, k + 1 => ch n k + ch n (k + 1)
def fct : Nat → Nat
  | 0 => 1
  | k + 1 => (k + 1) * fct k
/-- the words with so many letters, by how many y are ahead of one x -/
def aheadF (p r m : Nat) (n : Nat) : Nat := ((List.range n).map fun k => ch (p + k) k * ch (r + (m - k)) (m - k)).sum
end Lk

set_option Elab.async false
set_option linter.all false
set_option maxRecDepth 100000
set_option maxHeartbeats 4000000
open PySem
namespace Lk
/-! ### the highest unlike digit -/
def hb (a b : Nat) : Nat := Builtin.Int.intBits (Builtin.bitXor (a : Int) (b : Int))
/-! ### words that put a cell ahead, in great grids -/
def XA (n m i j : Nat) : Nat := aheadF (n - i) (i - 1) m (m - j + 1)
def cntA (n m x1 y1 x2 y2 : Nat) : Nat := if x2 ≤ x1 ∧ y2 ≤ y1 then 0 else if x1 ≤ x2 ∧ y1 ≤ y2 then ch (n + m) m else if x1 < x2 then XA n m (hb x1 x2) (hb y1 y2) else ch (n + m) m - XA n m (hb x1 x2) (hb y1 y2)
section
variable {n m x1 y1 x2 y2 : Nat}
theorem A1 (b : x1 ≤ x2 ∧ y1 ≤ y2) (ne : ¬ (x1 = x2 ∧ y1 = y2)) : cntA n m x1 y1 x2 y2 = ch (n + m) m := by
  unfold cntA
  rw [if_neg (show ¬ (x2 ≤ x1 ∧ y2 ≤ y1) by omega), if_pos b]
/-- the highest digits: their part of the words -/
def partX (n m x1 y1 x2 y2 : Nat) : Nat := if x1 / 2 ^ n ≠ x2 / 2 ^ n then (if x1 / 2 ^ n < x2 / 2 ^ n then ch (n + m) m else 0) else cntA n m (x1 - x1 / 2 ^ n * 2 ^ n) y1 (x2 - x1 / 2 ^ n * 2 ^ n) y2
def partY (n m x1 y1 x2 y2 : Nat) : Nat := if y1 / 2 ^ m ≠ y2 / 2 ^ m then (if y1 / 2 ^ m < y2 / 2 ^ m then ch (n + m) m else 0) else cntA n m x1 (y1 - y1 / 2 ^ m * 2 ^ m) x2 (y2 - y1 / 2 ^ m * 2 ^ m)
end
end Lk

set_option Elab.async false
set_option linter.all false
set_option maxRecDepth 100000
set_option maxHeartbeats 4000000
namespace Mi
open PySem PySem.Spec PyProof.Rows L2
/-! ### several stores at once -/
section
variable {Γ : Ga} {S : Sx} {cs cs' ts : List Nat} {W : WX} {m : Md} {σ : L2.St} {H G H1 G1 H0 : Hp} {ρ ρ1 : Env} {f : E} {g : EA} {X : Cx} {e : Expr} {es : List Expr} {ks : List Kd} {a : Addr} {vs : List V} {ds : List D} {fx : List Nat}
theorem Rep.setOwn' (rep : Rep Γ cs σ H1 G1 ρ1) {i : Nat} {o : HO} {d : D} (nT : ∀ j : Nat, j ∈ cs → σ[j]? ≠ some (some (.ref a))) (e1 : H1 a = some o) (n1 : G1 a = none) (ow : OwnO Γ G1 o d) : Rep Γ (i :: cs) (σ.set i (some (.ref a))) H1 G1 (ρ1.set i (some d)) := by
  have hl := rep.len
  have inC : ∀ {j : Nat}, j ∈ i :: cs → i ≠ j → j ∈ cs := fun {j} h n => (List.mem_cons.mp h).elim (fun z => absurd z.symm n) id
  refine ⟨by rw [List.length_set, List.length_set]; exact hl, rep.sub, fun j q => ?_, fun j d' hj q => ?_, fun j d' hj q => ?_, fun j k b hj hk q1 q2 => ?_⟩
  · by_cases e : i = j
    · subst e
      by_cases hlt : i < ρ1.length
      · rw [List.getElem?_set_self hlt] at q; cases q
      · rw [List.getElem?_eq_none (by rw [List.length_set]; omega)] at q; cases q
    · rw [List.getElem?_set_ne e] at q ⊢
      exact rep.un j q
  · have e : i ≠ j := fun z => hj (by rw [z]; exact List.mem_cons_self)
    rw [List.getElem?_set_ne e] at q ⊢
    exact rep.dat j d' (fun z => hj (List.mem_cons_of_mem _ z)) q
  · by_cases e : i = j
    · subst e
      have hlt : i < ρ1.length := by have := (List.getElem?_eq_some_iff.mp q).1; rw [List.length_set] at this; exact this
      rw [List.getElem?_set_self hlt] at q
      cases q
      exact ⟨a, o, List.getElem?_set_self (by omega), e1, n1, ow⟩
    · rw [List.getElem?_set_ne e] at q ⊢
      exact rep.own j d' (inC hj e) q
  · by_cases e : i = j
    · subst e
      by_cases e2 : i = k
      · exact e2
      · have hlt : i < σ.length := by have := (List.getElem?_eq_some_iff.mp q1).1; rw [List.length_set] at this; exact this
        rw [List.getElem?_set_self hlt] at q1
        rw [List.getElem?_set_ne e2] at q2
        cases q1
        exact absurd q2 (nT k (inC hk e2))
    · rw [List.getElem?_set_ne e] at q1
      by_cases e2 : i = k
      · subst e2
        have hlt : i < σ.length := by have := (List.getElem?_eq_some_iff.mp q2).1; rw [List.length_set] at this; exact this
        rw [List.getElem?_set_self hlt] at q2
        cases q2
        exact absurd q1 (nT j (inC hj e))
      · rw [List.getElem?_set_ne e2] at q2
        exact rep.sep j k b (inC hj e) (inC hk e2) q1 q2
theorem Rep.cong (rep : Rep Γ cs σ H G ρ) (h1 : ∀ j ∈ cs', j ∈ cs) (h2 : ∀ j ∈ cs, j ∈ cs') : Rep Γ cs' σ H G ρ :=
  ⟨rep.len, rep.sub, rep.un, fun i d hi h => rep.dat i d (fun z => hi (h2 i z)) h, fun i d hi h => rep.own i d (h1 i hi) h, fun i j a hi hj => rep.sep i j a (h1 i hi) (h1 j hj)⟩
def stV : List Nat → List V → L2.St → L2.St
  | i :: is, v :: vs, σ => stV is vs (σ.set i (some v))
  | _, _, σ => σ
def stD : List Nat → List D → Env → Env
  | i :: is, d :: ds, ρ => stD is ds (ρ.set i (some d))
  | _, _, ρ => ρ
def csAft : List Nat → List Kd → List Nat → List Nat
  | i :: is, .own :: ks, cs => csAft is ks (i :: cs)
  | _ :: is, _ :: ks, cs => csAft is ks cs
  | _, _, cs => cs
/-- what may be stored: a cell's slot is no plain one's, none is an argument's -/
def stOk (fx : List Nat) : List Nat → List Kd → List Nat → Bool
  | i :: is, .own :: ks, cs => decide (i ∉ fx) && stOk fx is ks (i :: cs)
  | i :: is, .full :: ks, cs => decide (i ∉ fx) && (decide (i ∉ cs) && stOk fx is ks cs)
  | [], [], _ => true
  | _, _, _ => false
theorem stores : ∀ {is : List Nat} {ks : List Kd} {vs : List V} {ds : List D} {cs : List Nat} {σ : L2.St} {ρ : Env}, stOk fx is ks cs = true → Rep Γ cs σ H1 G1 ρ → RKs Γ σ H H1 G1 ks vs ds → (∀ v ∈ ownVs ks vs, ∀ j : Nat, j ∈ cs → σ[j]? ≠ some (some v)) →
    Rep Γ (csAft is ks cs) (stV is vs σ) H1 G1 (stD is ds ρ) ∧ (∀ b, T (csAft is ks cs) (stV is vs σ) b → T cs σ b ∨ H b = none) ∧ ∀ i ∈ fx, (stV is vs σ)[i]? = σ[i]?
  | [], [], [], [], cs, σ, ρ, _, rep, _, _ => ⟨rep, fun _ h => .inl h, fun _ _ => rfl⟩
  | [], [], _ :: _, [], _, _, _, _, _, r, _ => r.elim
  | [], [], [], _ :: _, _, _, _, _, _, r, _ => r.elim
  | [], [], _ :: _, _ :: _, _, _, _, _, _, r, _ => r.elim
  | [], k :: ks, _, _, _, _, _, h, _, _, _ => by cases k <;> cases h
  | i :: is, [], _, _, _, _, _, h, _, _, _ => by cases h
  | i :: is, k :: ks, [], _, _, _, _, _, _, r, _ => r.elim
  | i :: is, k :: ks, _ :: _, [], _, _, _, _, _, r, _ => r.elim
  | i :: is, .root :: ks, _ :: _, _ :: _, _, _, _, h, _, _, _ => by cases h
  | i :: is, .cel j :: ks, _ :: _, _ :: _, _, _, _, h, _, _, _ => by cases h
  | i :: is, .full :: ks, v :: vs, d :: ds, cs, σ, ρ, h, rep, r, hn => by
    unfold stOk at h
    rw [Bool.and_eq_true, Bool.and_eq_true] at h
    obtain ⟨h1, h2, h3⟩ := h
    have hf : i ∉ fx := of_decide_eq_true h1
    have hc : i ∉ cs := of_decide_eq_true h2
    have r' : RKs Γ (σ.set i (some v)) H H1 G1 ks vs ds := by
      have gen : ∀ {ks : List Kd} {vs : List V} {ds : List D} {cs : List Nat} {is : List Nat}, stOk fx is ks cs = true → RKs Γ σ H H1 G1 ks vs ds → RKs Γ (σ.set i (some v)) H H1 G1 ks vs ds := by
        intro ks
        induction ks with
        | nil => intro vs ds cs is _ r; cases vs <;> cases ds <;> exact r
        | cons k ks ih =>
          intro vs ds cs is h r
          cases vs with
          | nil => exact r.elim
          | cons v vs =>
            cases ds with
            | nil => exact r.elim
            | cons d ds =>
              cases is with
              | nil => cases k <;> cases h
              | cons j is =>
                cases k with
                | full =>
                  unfold stOk at h
                  rw [Bool.and_eq_true, Bool.and_eq_true] at h
                  exact ⟨r.1, r.2.1, ih h.2.2 r.2.2⟩
                | own =>
                  unfold stOk at h
                  rw [Bool.and_eq_true] at h
                  exact ⟨r.1, r.2.1, ih h.2 r.2.2⟩
                | root => cases h
                | cel j => cases h
      exact gen h3 r.2.2
    obtain ⟨q1, q2, q3⟩ := stores (is := is) h3 (rep.set hc r.1) r' (fun u hu j hj => by rw [List.getElem?_set_ne (ne_mem hc hj)]; exact hn u hu j hj)
    exact ⟨q1, fun b hb => (q2 b hb).imp (fun z => (T.set hc).mp z) id, fun j hj => (q3 j hj).trans (List.getElem?_set_ne (ne_mem hf hj))⟩
  | i :: is, .own :: ks, v :: vs, d :: ds, cs, σ, ρ, h, rep, r, hn => by
    unfold stOk at h
    rw [Bool.and_eq_true] at h
    obtain ⟨h1, h3⟩ := h
    have hf : i ∉ fx := of_decide_eq_true h1
    have r' : RKs Γ (σ.set i (some v)) H H1 G1 ks vs ds := by
      have gen : ∀ {ks : List Kd} {vs : List V} {ds : List D} {cs : List Nat} {is : List Nat}, stOk fx is ks cs = true → RKs Γ σ H H1 G1 ks vs ds → RKs Γ (σ.set i (some v)) H H1 G1 ks vs ds := by
        intro ks
        induction ks with
        | nil => intro vs ds cs is _ r; cases vs <;> cases ds <;> exact r
        | cons k ks ih =>
          intro vs ds cs is h r
          cases vs with
          | nil => exact r.elim
          | cons v vs =>
            cases ds with
            | nil => exact r.elim
            | cons d ds =>
              cases is with
              | nil => cases k <;> cases h
              | cons j is =>
                cases k with
                | full =>
                  unfold stOk at h
                  rw [Bool.and_eq_true, Bool.and_eq_true] at h
                  exact ⟨r.1, r.2.1, ih h.2.2 r.2.2⟩
                | own =>
                  unfold stOk at h
                  rw [Bool.and_eq_true] at h
                  exact ⟨r.1, r.2.1, ih h.2 r.2.2⟩
                | root => cases h
                | cel j => cases h
      exact gen h3 r.2.2
    obtain ⟨a, o, rfl, n0, e1, n1, ow⟩ := r.1
    have nT : ∀ j : Nat, j ∈ cs → σ[j]? ≠ some (some (.ref a)) := fun j hj => hn (.ref a) (by unfold ownVs; exact List.mem_cons_self) j hj
    have nv : ∀ u ∈ ownVs ks vs, u ≠ .ref a := fun u hu z => r.2.1 rfl (by rw [← z]; exact hu)
    obtain ⟨q1, q2, q3⟩ := stores (is := is) h3 (rep.setOwn' (i := i) nT e1 n1 ow) r' (fun u hu j hj => by
      by_cases e : i = j
      · subst e
        by_cases hl : i < σ.length
        · rw [List.getElem?_set_self hl]
          intro z
          exact nv u hu (Option.some.inj (Option.some.inj z)).symm
        · rw [List.getElem?_eq_none (by rw [List.length_set]; omega)]
          intro z
          cases z
      · rw [List.getElem?_set_ne e]
        exact hn u (by unfold ownVs; exact List.mem_cons_of_mem _ hu) j ((List.mem_cons.mp hj).elim (fun z => absurd z.symm e) id))
    refine ⟨q1, fun b hb => ?_, fun j hj => (q3 j hj).trans (List.getElem?_set_ne (ne_mem hf hj))⟩
    rcases q2 b hb with ⟨j, hj, z⟩ | z
    · by_cases e : i = j
      · subst e
        by_cases hl : i < σ.length
        · rw [List.getElem?_set_self hl] at z
          cases z
          exact .inr n0
        · rw [List.getElem?_eq_none (by rw [List.length_set]; omega)] at z
          cases z
      · rw [List.getElem?_set_ne e] at z
        exact .inl ⟨j, (List.mem_cons.mp hj).elim (fun z => absurd z.symm e) id, z⟩
    · exact .inr z
def saBind (r : Option RA) (k : List D → Env → Option Out) : Option Out := match r with
  | none => none
  | some (.ok d ρ) => k d ρ
  | some (.ex x ρ) => some (.ex x ρ)
@[simp] theorem saBind_ok {d : List D} {ρ : Env} {k : List D → Env → Option Out} : saBind (some (.ok d ρ)) k = k d ρ := rfl
@[simp] theorem saBind_ex {d : D} {ρ : Env} {k : List D → Env → Option Out} : saBind (some (.ex d ρ)) k = some (.ex d ρ) := rfl
@[simp] theorem saBind_none {k : List D → Env → Option Out} : saBind none k = none := rfl
def sPar (is : List Nat) (g : EA) : SM := fun ρ => saBind (g ρ) fun ds ρ1 => some (.nx (stD is ds ρ1))
theorem par_core {is : List Nat} {D0 : Ends} {Q1 : List V → Hp → Prop} (hok : stOk S.fx is ks cs = true) (h1 : ∀ j ∈ cs', j ∈ csAft is ks cs) (h2 : ∀ j ∈ csAft is ks cs, j ∈ cs') (hx : ∀ i ∈ S.xc, i ∈ cs) (rep : Rep Γ cs σ H G ρ)
    (fin : FinS Γ S cs cs' D0 σ H G (sPar is g ρ)) (hq : ∀ vs H1, D0.nx (stV is vs σ) H1 → vs.length = ks.length → Q1 vs H1) : FinA Γ cs cs S.W ks σ H G Q1 (g ρ) := by
  unfold sPar at fin
  generalize g ρ = r at fin ⊢
  rcases r with _ | ⟨ds, ρ1⟩ | ⟨x, ρ1⟩
  · exact fin
  · intro vs H1 G1 rep1 st1 rk
    obtain ⟨q1, q2, q3⟩ := stores (fx := S.fx) (H := H) hok rep1 rk fun v hv j hj z => by
      obtain ⟨a, e1, e2⟩ := rk.own hv
      rw [e1] at z
      exact (rep.tc ⟨j, hj, z⟩).1 e2
    exact hq vs H1 ((show FinS Γ S cs cs' D0 σ H G (some (.nx (stD is ds ρ1))) from fin) _ H1 G1 (q1.cong h1 h2) ⟨st1, fun b ⟨j, hj, z⟩ => q2 b ⟨j, h1 j hj, z⟩, q3⟩) rk.len
  · intro c dx H' G' rep' st e
    obtain ⟨G2, rep2, s2, st2⟩ := rep'.frz (fx := S.fx) hx
    exact (show FinS Γ S cs cs' D0 σ H G (some (.ex x ρ1)) from fin) c dx σ H' G2 rep2 ((StS.of st).trans st2) (e.same s2)
theorem ms_par2 {i j : Nat} {st : Stmt} (h : ∀ ta, PA X es ta → PS X st (tPar i j ta)) (ha : PA X es (tA Γ cs cs S.W ks g)) (hl : ks.length = 2 := by rfl) (hok : stOk S.fx [i, j] ks cs = true := by first | decide | (dsimp only [fxOf]; decide)) (h1 : ∀ k ∈ cs', k ∈ csAft [i, j] ks cs := by first | decide | (dsimp only [fxOf]; decide)) (h2 : ∀ k ∈ csAft [i, j] ks cs, k ∈ cs' := by first | decide | (dsimp only [fxOf]; decide))
    (hx : ∀ i ∈ S.xc, i ∈ cs := by first | decide | (dsimp only [fxOf]; decide)) : PS X st (tS Γ S cs cs' (sPar [i, j] g)) :=
  PS.imp (h _ ha) fun D0 σ H ⟨G, ρ, rep, fin⟩ => ⟨G, ρ, rep, par_core hok h1 h2 hx rep fin fun vs H1 q hv => by
    rw [hl] at hv
    match vs, hv, q with
    | [v, w], _, q => exact ⟨v, w, rfl, q⟩⟩
/-- a, b, .. = a tuple that is made -/
def gNames : List Nat → TGs
  | [] => gNil
  | i :: is => gCons (gName i) (gNames is)
/-! ### cells changed -/
/-- x.m(e) that changes the list at the cell x alone: what it gives, the list behind it -/
def eMut (i : Nat) (op : List D → List D → Option (D × List D)) (g : EA) : E := fun ρ => match ρ[i]? with
  | some (some (.lst _)) => aBind (g ρ) fun ds ρ1 => (match ρ1[i]? with
    | some (some (.lst l)) => (match op l ds with
      | some (z, l') => some (.ok z (ρ1.set i (some (.lst l'))))
      | none => none)
    | _ => none)
  | _ => none
def appendD : List D → List D → Option (D × List D)
  | ds, [d] => if ds.length < 1000000 then some (.non, ds ++ [d]) else none
  | _, _ => none
def extendD : List D → List D → Option (D × List D)
  | ds, [.lst es] => if ds.length + es.length < 1000000 then some (.non, ds ++ es) else none
  | _, _ => none
def SoM (Γ : Ga) (r : V → List V → Hp → VK → Prop) (op : List D → List D → Option (D × List D)) : Prop := ∀ (H G : Hp) (a : Addr) (vs xs : List V) (l l' ds : List D) (z : D) (Q : VK), Same G H → H a = some (.lst vs) → Dts Γ G vs l → Dts Γ G xs ds → op l ds = some (z, l') →
  (∀ v vs', Dts Γ G vs' l' → Dt Γ G v z → Q v (upd H a (.lst vs'))) → r (.ref a) xs H Q
/-- the cell's list is another one from here on -/
theorem Rep.updL (rep : Rep Γ cs σ H G ρ) {i : Nat} (hi : i ∈ cs) {a : Addr} {vs : List V} {d : D} {l : List D} (hs : σ[i]? = some (some (.ref a))) (hr : ρ[i]? = some (some d)) (r : Dts Γ G vs l) : Rep Γ cs σ (L2.upd H a (.lst vs)) G (ρ.set i (some (.lst l))) := rep.upd hi hs hr (.lst r)
/-- x[k] = e, x a cell's list -/
def sSub (i : Nat) (f k : E) : SM := fun ρ => sBind (f ρ) fun d ρ1 => match ρ1[i]? with
  | some (some (.lst _)) => sBind (k ρ1) fun kd ρ2 => (match ρ2[i]?, kd with
    | some (some (.lst l)), .int n => (match ixN l.length n with
      | some j => some (.nx (ρ2.set i (some (.lst (l.set j d)))))
      | none => none)
    | _, _ => none)
  | _ => none
theorem ms_sub {i : Nat} {o k : Expr} {fk : E} {pos tpos : Pos} (ho : PE X o (tVar i)) (hk : PE X k (tE Γ cs cs S.W .full fk)) (he : PE X e (tE Γ cs cs S.W .full f))
    (h : PE X e (tE Γ cs cs S.W .full f) → PE X k (tE Γ cs cs S.W .full fk) → PS X (.Assign [.Subscript o k tpos] e pos) (tAsg (tE Γ cs cs S.W .full f) (gSub (tVar i) (tE Γ cs cs S.W .full fk) rSetL))) (hi : i ∈ cs := by first | decide | (dsimp only [fxOf]; decide)) (hx : ∀ i ∈ S.xc, i ∈ cs := by first | decide | (dsimp only [fxOf]; decide)) : PS X (.Assign [.Subscript o k tpos] e pos) (tS Γ S cs cs (sSub i f fk)) :=
  PS.imp (h he hk) fun D0 σ H ⟨G, ρ, rep, fin⟩ => ⟨G, ρ, rep, finS_bind hx fin fun v d ρ1 H1 G1 rep1 st1 rm fin1 => by
    split at fin1
    · rename_i l0 hq
      obtain ⟨a, o', h1, h2, h3, h4⟩ := rep1.own i _ hi hq
      refine ⟨.ref a, h1, G1, ρ1, rep1, finS_bind (D0 := D0) (cs' := cs) hx (fin1.step (.of st1)) fun u kd ρ2 H2 G2 rep2 st2 rm2 fin2 => ?_⟩
      split at fin2
      · rename_i l n hq2
        split at fin2
        · rename_i j hj
          obtain ⟨a1, o1, w1, w2, w3, w4⟩ := rep2.own i _ hi hq2
          rw [h1] at w1
          cases w1
          cases w4 with
          | lst r1 =>
            refine ⟨a, _, n, j, rfl, dt_int rm2, w2, by rw [r1.len]; exact hj, ?_⟩
            exact fin2 σ _ G2 (rep2.updL hi h1 hq2 (r1.set j (Dt.same st2.g rm))) (.of (st2.tr (Stp.upd hi h1)))
        · exact fin2.elim
      · exact fin2.elim
    · exact fin1.elim⟩
/-! ### built-in functions -/
theorem rv1 {xs : List V} {d : D} (h : RVs Γ H G xs [d]) : ∃ v, xs = [v] ∧ RM Γ .root H H G v d := by
  cases h with
  | cons h r => cases r; exact ⟨_, rfl, h⟩
theorem rv2 {xs : List V} {d d2 : D} (h : RVs Γ H G xs [d, d2]) : ∃ v v2, xs = [v, v2] ∧ RM Γ .root H H G v d ∧ RM Γ .root H H G v2 d2 := by
  cases h with
  | cons h r =>
    obtain ⟨v, rfl, q⟩ := rv1 r
    exact ⟨_, v, rfl, h, q⟩
def b_len : List D → Option D
  | [.str s] => if s.length ≤ sizeLine then some (.int (s.length : Nat)) else none
  | [.tup ds] => some (.int (ds.length : Nat))
  | [.lst ds] => some (.int (ds.length : Nat))
  | [.slst ns] => some (.int (ns.length : Nat))
  | _ => none
theorem o_len {K : PySem.W.Frag} (hK : X.K = K := by rfl) : CallR X (.builtin "len") (fun xs H Q => ∃ x n, xs = [x] ∧ LenV K x H n ∧ Q (.int n) H) := by
  subst hK
  exact call_len
theorem so_len : SoA Γ .full (fun xs H Q => ∃ x n, xs = [x] ∧ LenV Γ.K x H n ∧ Q (.int (n : Nat)) H) b_len := fun H G xs ds z Q s rv e q => by
  unfold b_len at e
  split at e
  · split at e
    · rename_i y hc
      cases e
      obtain ⟨v, rfl, h⟩ := rv1 rv
      cases root_str h
      exact ⟨_, _, rfl, ⟨hc, rfl⟩, q _ H G (Ext.refl s) (.int _)⟩
    · cases e
  · cases e
    obtain ⟨v, rfl, h⟩ := rv1 rv
    obtain ⟨a, vs, rfl, _, h1, h2⟩ := root_tup s h
    exact ⟨_, _, rfl, .inr ⟨vs, h1, h2.len.symm⟩, q _ H G (Ext.refl s) (.int _)⟩
  · cases e
    obtain ⟨v, rfl, h⟩ := rv1 rv
    obtain ⟨a, vs, rfl, h1, h2⟩ := root_lst s h
    exact ⟨_, _, rfl, .inl ⟨vs, SqL.of h1, h2.len.symm⟩, q _ H G (Ext.refl s) (.int _)⟩
  · cases e
    obtain ⟨v, rfl, h⟩ := rv1 rv
    obtain ⟨a, vs, rfl, h1, h2⟩ := root_list s h rfl
    exact ⟨_, _, rfl, .inl ⟨vs, h1, by rw [h2.len, List.length_map]⟩, q _ H G (Ext.refl s) (.int _)⟩
  · cases e
def b_max2 : List D → Option D
  | [.int i, .int j] => some (.int (if j > i then j else i))
  | _ => none
def b_min2 : List D → Option D
  | [.int i, .int j] => some (.int (if j < i then j else i))
  | _ => none
theorem so_max2 : SoA Γ .full (fun xs H Q => ∃ i j, xs = [.int i, .int j] ∧ Q (.int (if j > i then j else i)) H) b_max2 := fun H G xs ds z Q s rv e q => by
  unfold b_max2 at e
  split at e
  · cases e
    obtain ⟨v, v2, rfl, h, h2⟩ := rv2 rv
    cases root_int h
    cases root_int h2
    exact ⟨_, _, rfl, q _ H G (Ext.refl s) (.int _)⟩
  · cases e
def b_int : List D → Option D
  | [.int i] => some (.int i)
  | [.bl b] => some (.int (if b then 1 else 0))
  | _ => none
theorem so_int1 : SoA Γ .full (fun xs H Q => (∃ i, xs = [.int i] ∧ Q (.int i) H) ∨ ∃ k, xs = [.bl k] ∧ Q (.int (if k then 1 else 0)) H) b_int := fun H G xs ds z Q s rv e q => by
  unfold b_int at e
  split at e
  · cases e
    obtain ⟨v, rfl, h⟩ := rv1 rv
    cases root_int h
    exact .inl ⟨_, rfl, q _ H G (Ext.refl s) (.int _)⟩
  · cases e
    obtain ⟨v, rfl, h⟩ := rv1 rv
    cases root_bl h
    exact .inr ⟨_, rfl, q _ H G (Ext.refl s) (.int _)⟩
  · cases e
def b_abs : List D → Option D
  | [.int i] => some (.int (if i < 0 then -i else i))
  | _ => none
def b_sum : List D → Option D
  | [d] => ((listD d).bind intsD).map fun ns => .int ns.sum
  | _ => none
def maxL : List Int → Int
  | [] => 0
  | [n] => n
  | n :: ns => max n (maxL ns)
def minL : List Int → Int
  | [] => 0
  | [n] => n
  | n :: ns => min n (minL ns)
def b_max1 : List D → Option D
  | [d] => ((listD d).bind intsD).bind fun ns => if 0 < ns.length then some (.int (maxL ns)) else none
  | _ => none
def b_min1 : List D → Option D
  | [d] => ((listD d).bind intsD).bind fun ns => if 0 < ns.length then some (.int (minL ns)) else none
  | _ => none
def b_all : List D → Option D
  | [d] => ((listD d).bind blsD).map fun bs => .bl (bs.all id)
  | _ => none
def b_any : List D → Option D
  | [d] => ((listD d).bind blsD).map fun bs => .bl (bs.any id)
  | _ => none
/-- sorting -/
def insI (n : Int) : List Int → List Int
  | [] => [n]
  | k :: ks => if n ≤ k then n :: k :: ks else k :: insI n ks
def isort : List Int → List Int
  | [] => []
  | n :: ns => insI n (isort ns)
def b_sorted : List D → Option D
  | [d] => ((listD d).bind intsD).map fun ns => .lst ((isort ns).map .int)
  | _ => none
def b_list : List D → Option D
  | [.tup ds] => some (.lst ds)
  | [d] => (listD d).map .lst
  | _ => none
/-! ### texts -/
def m_count : D → List D → Option D
  | .str a, [.str b] => some (.int (Txt.count a b))
  | _, _ => none
/-- what a text's method gives -/
def eTxt (op : D → List D → Option D) (f : E) (g : EA) : E := fun ρ => eBind (f ρ) fun d ρ1 => match d with
  | .str _ => aBind (g ρ1) fun ds ρ2 => lift (op d ds) ρ2
  | _ => none
def SoT (Γ : Ga) (m : Md) (r : V → List V → Hp → VK → Prop) (op : D → List D → Option D) : Prop := ∀ (H G : Hp) (x : Str) (xs : List V) (ds : List D) (z : D) (Q : VK), Same G H → RVs Γ H G xs ds → op (.str x) ds = some z →
  (∀ v H' G', Ext H G H' G' → RM Γ m H H' G' v z → Q v H') → r (.str x) xs H Q
end
end Mi

set_option Elab.async false
set_option linter.all false
set_option maxRecDepth 100000
set_option maxHeartbeats 4000000
namespace Mi
open PySem PySem.Spec PyProof.Rows L2
section
variable {Γ : Ga} {S : Sx} {cs cs' ts : List Nat} {W : WX} {m : Md} {σ : L2.St} {H G H1 G1 H0 : Hp} {ρ ρ1 : Env} {f f1 f2 f3 : E} {g : EA} {X : Cx} {e a b c d : Expr} {es : List Expr} {ks : List Kd} {Q : VK} {pos : Pos}
/-! ### chains of comparisons -/
def eChain (op op' : D → D → Option D) (f1 f2 f3 : E) : E := fun ρ => eBind (f1 ρ) fun a ρ1 => eBind (f2 ρ1) fun b ρ2 => match op a b with
  | some (.bl true) => eBind (f3 ρ2) fun c ρ3 => lift (op' b c) ρ3
  | some (.bl false) => some (.ok (.bl false) ρ2)
  | _ => none
section
variable {o o' : CmpOp} {r r' : R2} {op op' : D → D → Option D}
end
def eChain3 (op op' op'' : D → D → Option D) (f0 f1 f2 f3 : E) : E := fun ρ => eBind (f0 ρ) fun a ρ1 => eBind (f1 ρ1) fun b ρ2 => match op a b with
  | some (.bl true) => eBind (f2 ρ2) fun c ρ3 => (match op' b c with
    | some (.bl true) => eBind (f3 ρ3) fun d ρ4 => lift (op'' c d) ρ4
    | some (.bl false) => some (.ok (.bl false) ρ3)
    | _ => none)
  | some (.bl false) => some (.ok (.bl false) ρ2)
  | _ => none
section
variable {o o' o'' : CmpOp} {r r' r'' : R2} {op op' op'' : D → D → Option D} {f0 : E}
end
/-! ### slices -/
def bdI : D → Option (Option Int)
  | .non => some none
  | .int i => some (some i)
  | _ => none
def eNo : E := fun ρ => some (.ok .non ρ)
def eBd (f : E) : E := fun ρ => eBind (f ρ) fun d ρ1 => match d with
  | .int i => some (.ok (.int i) ρ1)
  | _ => none
/-- e[lo:hi]; a missing bound is eNo -/
def eSl (op : D → Option Int → Option Int → Option D) (f lo hi : E) : E := fun ρ => eBind (f ρ) fun d ρ1 => eBind (lo ρ1) fun l ρ2 => eBind (hi ρ2) fun h ρ3 =>
  match bdI l, bdI h with
  | some i, some j => lift (op d i j) ρ3
  | _, _ => none
def SoS (Γ : Ga) (m : Md) (r : V → Option Int → Option Int → Hp → VK → Prop) (op : D → Option Int → Option Int → Option D) : Prop := ∀ (H G : Hp) (x : V) (d z : D) (lo hi : Option Int) (Q : VK), Same G H → RM Γ .root H H G x d → op d lo hi = some z →
  (∀ v H' G', Ext H G H' G' → RM Γ m H H' G' v z → Q v H') → r x lo hi H Q
def slL (d : D) (lo hi : Option Int) : Option D := (listD d).map fun ds => .lst (cutD ds lo hi)
def slT (d : D) (lo hi : Option Int) : Option D := match d with
  | .tup ds => some (.tup (cutD ds lo hi))
  | _ => none
def slX (d : D) (lo hi : Option Int) : Option D := match d with
  | .str z => if z.length ≤ sizeLine then some (.str (Txt.slice z lo hi)) else none
  | _ => none
/-- a bound -/
def FinO (Γ : Ga) (cs : List Nat) (W : WX) (σ : L2.St) (H G : Hp) (Q1 : Option Int → Hp → Prop) : Option R → Prop
  | none => False
  | some (.ok d ρ') => ∀ i, bdI d = some i → ∀ H' G', Rep Γ cs σ H' G' ρ' → Ext H G H' G' → Q1 i H'
  | some (.ex x ρ') => ∀ c dx H' G', Rep Γ cs σ H' G' ρ' → Stp (T [] σ) H G H' G' → Dx Γ H' G' c dx x → W c dx σ H'
def tO (Γ : Ga) (cs : List Nat) (W : WX) (f : E) : TO := fun σ H Q1 => ∃ G ρ, Rep Γ cs σ H G ρ ∧ FinO Γ cs W σ H G Q1 (f ρ)
theorem PO.imp {e : Option Expr} {t t' : TO} (h : PO X e t) (k : ∀ σ H Q, t' σ H Q → t σ H Q) : PO X e t' := ⟨fun pins s σ H Q I hw => h.run pins s σ H Q I (k σ H Q hw)⟩
/-- s[::-1] of a text -/
def eRevS (f : E) : E := fun ρ => eBind (f ρ) fun d ρ1 => match d with
  | .str z => if z.length ≤ sizeLine then some (.ok (.str ⟨z.cps.reverse⟩) ρ1) else none
  | _ => none
/-! ### raise -/
def sRaise (n : String) : SM := fun ρ => some (.ex (.exc n []) ρ)
/-! ### repr -/
def reprP (p : PyData) : Option Str := if p.showable = true ∧ p.hasDict = false ∧ p.depth ≤ 8 ∧ p.shown.length ≤ sizeLine then some p.shown else none
def reprD : D → Option Str
  | .non => some "None"
  | .bl b => some (if b then "True" else "False")
  | .int i => if i.natAbs.log2 < 1920 then some (toString i) else none
  | .str s => if (reprText s).length ≤ sizeLine then some (reprText s) else none
  | .dic [] => some (PyData.dict []).shown
  | .tup ds => (D.pys ds).bind fun ps => reprP (.tuple ps)
  | .lst ds => (D.pys ds).bind fun ps => reprP (.list ps)
  | .slst ns => reprP (.list (ns.map .int))
  | _ => none
def b_repr : List D → Option D
  | [d] => (reprD d).map .str
  | _ => none
/-! ### truth of lists, numbers -/
def truD : D → Option Bool
  | .non => some false
  | .bl b => some b
  | .int i => some (i != 0)
  | .str y => if y.length ≤ sizeLine then some ((y.length : Int) != 0) else none
  | .lst ds => some (!ds.isEmpty)
  | .slst ds => some (!ds.isEmpty)
  | .tup ds => some (!ds.isEmpty)
  | _ => none
def eTru (f : E) : E := fun ρ => eBind (f ρ) fun d ρ1 => match truD d with
  | some b => some (.ok (.bl b) ρ1)
  | none => none
/-! ### isinstance -/
abbrev Kn := Bool × String
/-- a built-in type's name (true), or a class's -/
def knD : D → Option Kn
  | .non => some (true, "NoneType")
  | .bl _ => some (true, "bool")
  | .int _ => some (true, "int")
  | .str _ => some (true, "str")
  | .tup _ => some (true, "tuple")
  | .lst _ => some (true, "list")
  | .slst _ => some (true, "list")
  | .dic _ => some (true, "dict")
  | .ins n _ => some (false, n)
  | _ => none
def clD : D → Option Kn
  | .ty n => some (true, n)
  | .cls n => some (false, n)
  | _ => none
def Kn.val (Γ : Ga) : Kn → Value
  | (true, n) => .type n
  | (false, n) => .ref (Γ.ca n)
abbrev ITab := List (Kn × Kn × Bool)
def ITab.get (t : ITab) (a b : Kn) : Option Bool := (t.find? fun e => decide (e.1 = a ∧ e.2.1 = b)).map (·.2.2)
def ITab.Ok (Γ : Ga) (t : ITab) : Prop := ∀ e ∈ t, PySem.W.kitOne Γ.K (e.1.val Γ) (e.2.1.val Γ) = some e.2.2 ∧ (e.1.1 = false → C8.InsC Γ.K (Γ.ca e.1.2))
def b_isi (t : ITab) : List D → Option D
  | [d, c] => (knD d).bind fun a => (clD c).bind fun b => (t.get a b).map .bl
  | _ => none
theorem cl_root {v : V} {d : D} {b : Kn} (h : RM Γ .root H0 H G v d) (e : clD d = some b) : ClsV v (b.val Γ) := by
  rcases h with h | ⟨a, o, rfl, q, h⟩
  · cases h with
    | ty n => cases e; exact .ty n
    | cls n => cases e; exact .own _
    | _ => cases e
  · cases h <;> cases e
/-! ### the bodies, the law -/
theorem fn_body0 {pm : List Bool} {rm : Md} {vs : List V} {E : XK} {N : List Str} {cs c' : List Nat} {n : Nat} {body : SM} {fall : Bool} (h : spM0 Γ pm rm (runF pm fall n body) vs H Q E) (hc : cellsAt 0 pm = cs) (hn : N.length = n) (hl : pm.length ≤ n) (hfall : fall = true → rm = .full ∧ ∀ i ∈ cs, i ∈ c') :
    tS Γ ⟨cs, [], cs, rm, W0⟩ cs c' body { nx := fun _ H' => Q .non H', rt := Q } (L2.start N vs) H := fn_body h hc hn hl hfall
end
theorem law_end {P : Program} {w : World} {K : PySem.W.Frag} {mg : Str → Option Value} {base : Heap} {k : Nat} {f : Addr} {fd : FuncData} {Γ : Ga} {F : FnD} (hK : Γ.K = K := by rfl) (Fn : Lk.FnG P w K mg base k f fd ["script"] (spM0 Γ [false] .full F))
    (hl : ∀ ns : List Int, ns.length ≤ 63 → ∃ ds, F [.slst ns] = some (.ok (.bl true) ds)) :
    Lk.FnG P w K mg base k f fd ["script"] (fun vs H Q _ => ∃ (a : Addr) (ns : List Int), vs = [.ref a] ∧ SqL K H a (ns.map V.int) ∧ ns.length ≤ 63 ∧ ∀ H', Q (.bl true) H') := by
  subst hK
  have key : ∀ vs H Q E, (∃ (a : Addr) (ns : List Int), vs = [.ref a] ∧ SqL Γ.K H a (ns.map V.int) ∧ ns.length ≤ 63 ∧ ∀ H', Q (.bl true) H') → spM0 Γ [false] .full F vs H Q E := by
    rintro vs H Q E ⟨a, ns, rfl, hS, hn, q⟩
    obtain ⟨ds, e⟩ := hl ns hn
    refine ⟨H, [.slst ns], Same.refl H, ⟨rfl, rfl, fun i v d h1 h2 h3 => ?_, fun i v d h1 _ _ => ?_, fun i j a h1 _ _ _ => ?_⟩, ?_⟩
    · cases i with
      | zero =>
        cases h2
        cases h3
        exact .slst hS
      | succ i => simp at h1
    · cases i <;> simp at h1
    · cases i <;> simp at h1
    · rw [e]
      intro v H' G' _ _ _ rm
      cases (show Dt Γ G' v (.bl true) from rm)
      exact q H'
  exact ⟨fun vs H Q E h => Fn.wide vs H Q E (key vs H Q E h), fun A outer s H args us vs Q E hg hr e0 hb rv h => Fn.goes A outer s H args us vs Q E hg hr e0 hb rv (key vs H Q E h)⟩
/-- an expression that never raises -/
def NoEx (f : E) : Prop := ∀ ρ x ρ', f ρ ≠ some (.ex x ρ')
theorem kit_kt {K : PySem.W.Frag} {D : Addr} {c : String} {b : Bool} (h : PySem.W.mroIn K D (.type c) = some b) (hm : PySem.W.kitMeta c = true) : PySem.W.kitOne K (.ref D) (.type c) = some b := by
  unfold PySem.W.kitOne PySem.W.kitCls
  rw [if_neg (by intro z; cases (eq_of_beq z))]
  dsimp only
  rw [if_pos hm]
  exact h
theorem cls_some {K : PySem.W.Frag} {C : Addr} {v : Value} {b : Bool} (h : PySem.W.mroIn K C v = some b) : (PySem.W.clsIn K C).isSome = true := by
  unfold PySem.W.mroIn at h
  cases e : PySem.W.clsIn K C with
  | none => rw [e] at h; cases h
  | some _ => rfl
theorem kit_kc {K : PySem.W.Frag} {D C : Addr} {b : Bool} (h : PySem.W.mroIn K D (.ref C) = some b) (self : PySem.W.mroIn K C (.ref C) = some true) (t : PySem.W.typeIn K (.ref C) = some (.type "type")) : PySem.W.kitOne K (.ref D) (.ref C) = some b := by
  unfold PySem.W.kitOne PySem.W.kitCls
  by_cases e : D = C
  · subst e
    rw [self] at h
    rw [if_pos (beq_self_eq_true _)]
    exact h
  · rw [if_neg (by intro z; cases (eq_of_beq z); exact e rfl)]
    dsimp only
    rw [if_pos (by rw [cls_some self, t]; rfl)]
    exact h
end Mi

set_option Elab.async false
set_option linter.all false
set_option maxRecDepth 100000
set_option maxHeartbeats 4000000
namespace Mi
open PySem PySem.Spec PyProof.Rows L2
/-- a statement that is never met -/
def sDead : SM := fun _ => none
section
variable {Γ : Ga} {S : Sx} {cs cs' ts : List Nat} {W : WX} {m : Md} {σ : L2.St} {H G H1 G1 H0 : Hp} {ρ ρ1 : Env} {f f1 f2 f3 : E} {g : EA} {X : Cx} {e a b c d o : Expr} {es : List Expr} {ks : List Kd} {Q : VK} {pos : Pos}
/-! ### a list backwards -/
def eRevL (f : E) : E := fun ρ => eBind (f ρ) fun d ρ1 => match listD d with
  | some ds => some (.ok (.lst ds.reverse) ρ1)
  | none => none
/-! ### a tuple backwards -/
def eRevT (f : E) : E := fun ρ => eBind (f ρ) fun d ρ1 => match d with
  | .tup ds => some (.ok (.tup ds.reverse) ρ1)
  | _ => none
/-! ### an item of a cell's list, its index by calls that touch other cells -/
/-! ### a display of two texts by texts, looked up at once -/
def dctD (k1 v1 k2 v2 : Str) : D → Option D
  | .str s => if s = k2 then some (.str v2) else if s = k1 then some (.str v1) else none
  | _ => none
/-! ### the number of binary digits -/
def bitsD : D → Option D
  | .int i => some (.int (Builtin.Int.intBits i : Nat))
  | _ => none
/-! ### functions of math -/
section
variable {x : Str} {p : Pos} {id : String} {r : List V → Hp → VK → Prop} {op : List D → Option D}
end
def b_gcd : List D → Option D
  | [.int i, .int j] => some (.int (Nat.gcd i.natAbs j.natAbs : Nat))
  | _ => none
def combC (i j : Int) : Prop := 0 ≤ i ∧ 0 ≤ j ∧ i ≤ 9000 ∧ j ≤ 9000
noncomputable instance (a b : Int) : Decidable (combC a b) := Classical.propDecidable _
noncomputable def b_comb : List D → Option D
  | [.int i, .int j] => if combC i j then some (.int (PySem.W.mcComb i j)) else none
  | _ => none
def rComb : List V → Hp → VK → Prop := fun xs H Q => ∃ i j : Int, xs = [.int i, .int j] ∧ combC i j ∧ Q (.int (PySem.W.mcComb i j)) H
/-! ### tuple(..), str(..) -/
def b_tuple : List D → Option D
  | [.tup ds] => some (.tup ds)
  | [d] => (listD d).map .tup
  | _ => none
def b_str : List D → Option D
  | [.int i] => if i.natAbs.log2 < 1920 then some (.str (toString i)) else none
  | [.str x] => some (.str x)
  | _ => none
/-! ### methods of texts -/
def strsD : List D → Option (List Str)
  | [] => some []
  | .str i :: r => (strsD r).map (i :: ·)
  | _ => none
def joinC (a : Str) (ys : List Str) : Prop := (ys.map (·.length)).sum + ys.length * a.length ≤ 16777216
noncomputable instance (a : Str) (b : List Str) : Decidable (joinC a b) := Classical.propDecidable _
noncomputable def m_join : D → List D → Option D
  | .str a, [d] => ((listD d).bind strsD).bind fun ys => if joinC a ys then some (.str (Txt.join a ys)) else none
  | _, _ => none
def rJoin (K : PySem.W.Frag) : V → List V → Hp → VK → Prop := fun x xs H Q => ∃ a p, ∃ ys : List Str, x = .str a ∧ xs = [.ref p] ∧ (SqL K H p (ys.map V.str) ∨ SqT K H p (ys.map V.str)) ∧ (ys.map (·.length)).sum + ys.length * a.length ≤ 16777216 ∧ Q (.str (Txt.join a ys)) H
/-! ### sorted, of pairs of ints -/
def rSortP (K : PySem.W.Frag) : List V → Hp → VK → Prop := fun vs H Q => ∃ (l : Addr) (xs : List V) (kf : V → Int × Int), vs = [V.ref l] ∧ SqL K H l xs ∧ (∀ x ∈ xs, ∃ t, x = V.ref t ∧ SqT K H t [.int (kf x).1, .int (kf x).2]) ∧
  ∀ (ys : List V) (p : Addr), SrtO.Srtd (ltP kf) ys → ys.Perm xs → (∀ (t : Addr) (as bs : List V), SqT K H t as → SqT K H t bs → as = bs) → H p = none → Q (.ref p) (upd H p (.lst ys))
abbrev prI (p : Int × Int) : D := .tup [.int p.1, .int p.2]
def pairsD : List D → Option (List (Int × Int))
  | [] => some []
  | .tup [.int a, .int b] :: r => (pairsD r).map ((a, b) :: ·)
  | _ => none
def leP (p q : Int × Int) : Prop := p.1 < q.1 ∨ (p.1 = q.1 ∧ p.2 ≤ q.2)
instance (p q : Int × Int) : Decidable (leP p q) := inferInstanceAs (Decidable (_ ∨ _))
def insP (n : Int × Int) : List (Int × Int) → List (Int × Int)
  | [] => [n]
  | k :: ks => if leP n k then n :: k :: ks else k :: insP n ks
def psort : List (Int × Int) → List (Int × Int)
  | [] => []
  | n :: ns => insP n (psort ns)
def b_sortedP : List D → Option D
  | [d] => ((listD d).bind pairsD).map fun ps => .lst ((psort ps).map prI)
  | _ => none
theorem Dts.pairs : ∀ {vs : List V} {ps : List (Int × Int)}, Dts Γ H vs (ps.map prI) → ∀ x ∈ vs, ∃ t p, x = V.ref t ∧ p ∈ ps ∧ SqT Γ.K H t [.int p.1, .int p.2]
  | _, [], h, x, hx => by cases h; cases hx
  | _, p :: ps, h, x, hx => by
    cases h with
    | cons h r =>
      rcases List.mem_cons.mp hx with e | hx
      · subst e
        cases h with
        | tup h2 r2 =>
          cases r2 with
          | cons a1 r3 =>
            cases a1
            cases r3 with
            | cons a2 r4 =>
              cases a2
              cases r4
              exact ⟨_, p, rfl, List.mem_cons_self, SqT.of h2⟩
      · obtain ⟨t, p', e, hp, hs⟩ := Dts.pairs r x hx
        exact ⟨t, p', e, List.mem_cons_of_mem _ hp, hs⟩
end
end Mi

set_option Elab.async false
set_option linter.all false
set_option maxRecDepth 4000
set_option maxHeartbeats 4000000
/-! sets of ints made of lists: set(xs), sorted(set(xs)), len(set(xs)) -/
namespace SetL
open PySem PySem.Spec PyProof.Rows L2
section
variable {P : Program} {w : World} {A : Around} {E : Value → Shared → Prop} {s : Shared}
abbrev emptyS (w : World) : Obj := { cls := .type "set", dict := none, data := .set #[] 0 (.fresh 0 0 (!w.params.followText "set-order")) }
set_option maxHeartbeats 6400000 in
end
/-! ### as rules -/
def rSetL (w : World) (K : PySem.W.Frag) : List V → Hp → VK → Prop := fun xs H Q => ∃ (l : Addr) (ns : List Int), xs = [V.ref l] ∧ SqL K H l (ns.map V.int) ∧ ns.length ≤ 4000 ∧ ∀ p c, H p = none → c ≤ ns.length → Q (.ref p) (L2.upd H p (SetO w p (fun j => decide (j ∈ ns)) c))
def rSortS (w : World) : List V → Hp → VK → Prop := fun vs H Q => ∃ (a : Addr) (S : Int → Bool) (n : Nat), vs = [V.ref a] ∧ H a = some (SetO w a S n) ∧ n ≤ 4000 ∧
  ∀ (ns : List Int) (p : Addr), ns.Pairwise (· < ·) → (∀ k : Int, k ∈ ns ↔ S k = true) → H p = none → Q (.ref p) (L2.upd H p (.lst (ns.map V.int)))
def rLenS (w : World) : List V → Hp → VK → Prop := fun vs H Q => ∃ (a : Addr) (S : Int → Bool) (n : Nat), vs = [V.ref a] ∧ H a = some (SetO w a S n) ∧ n ≤ 4000 ∧
  ∀ ns : List Int, ns.Nodup → (∀ k : Int, k ∈ ns ↔ S k = true) → Q (.int (ns.length : Nat)) H
section
variable {X : Cx}
end
end SetL
namespace Mi
open PySem PySem.Spec PyProof.Rows L2
/-! ### in the mirror -/
def insU (n : Int) : List Int → List Int
  | [] => [n]
  | k :: ks => if n < k then n :: k :: ks else if n = k then k :: ks else k :: insU n ks
/-- the ints of a list, ascending, each once -/
def usort : List Int → List Int
  | [] => []
  | n :: ns => insU n (usort ns)
def setC (n : Nat) : Prop := n ≤ 4000
noncomputable instance (n : Nat) : Decidable (setC n) := Classical.propDecidable _
noncomputable def b_sortSet : List D → Option D
  | [d] => ((listD d).bind intsD).bind fun ns => if setC ns.length then some (.lst ((usort ns).map .int)) else none
  | _ => none
noncomputable def b_lenSet : List D → Option D
  | [d] => ((listD d).bind intsD).bind fun ns => if setC ns.length then some (.int ((usort ns).length : Nat)) else none
  | _ => none
/-- a call of a call: the set stands between -/
def rThen (r : List V → Hp → VK → Prop) (r2 : List V → Hp → VK → Prop) : List V → Hp → VK → Prop := fun xs H Q => r xs H fun v H1 => r2 [v] H1 Q
section
variable {Γ : Ga} {cs ts : List Nat} {W : WX} {X : Cx} {a : Expr} {f : E} {H G : Hp}
variable {p p2 q pos : Pos}
end
/-! ### x in xs, ints -/
def inB : D → D → Option Bool
  | .int i, d => ((listD d).bind intsD).map fun ns => decide (i ∈ ns)
  | _, _ => none
def inD (a b : D) : Option D := (inB a b).map .bl
def notinD (a b : D) : Option D := (inB a b).map fun c => .bl (!c)
section
variable {Γ : Ga} {X : Cx}
theorem o_notin {K : PySem.W.Frag} (hK : X.K = K := by rfl) : OpR X (compareOp .NotIn) (rIn K true) := by
  subst hK
  exact op_notIn_seq
end
end Mi

set_option Elab.async false
set_option linter.all false
set_option maxRecDepth 4000
set_option maxHeartbeats 4000000
/-! list(zip(a, b)) of lists, tuples, texts -/
namespace ZipL
open PySem PySem.Spec PyProof.Rows L2
section
variable {prog : Program} {w : World} {A : Around} {E : Value → Shared → Prop} {s : Shared} {z TI TO T i1 i2 : Addr} {fp1 fp2 : List Addr} {n1 n2 i : Nat} {P1 P2 : Nat → Value → Prop} {St1 St2 : Nat → Heap → Prop} {a1 a2 : Value} {f : Bool} {oT : Obj}
/-- a zip's own state, its tuple out or not -/
def ZSt (z TI TO i1 i2 : Addr) (St1 St2 : Nat → Heap → Prop) (i : Nat) (h : Heap) : Prop :=
  IsTupOf2 h TI (.ref i1) (.ref i2) ∧ St1 i h ∧ St2 i h ∧ ((IsZip h z TI TO .none ∧ ∃ a1 a2, IsTupOf2 h TO a1 a2) ∨ ∃ T f oT, IsZipHeld h z TI TO T f ∧ h.get? T = some oT)
end
/-! ### what a zip may walk -/
def Src (P : Program) (w : World) (s : Shared) (u : Value) (vs : List V) : Prop :=
  ∃ (o : Obj) (Hq : Heap → Prop) (rest : List Addr) (Pr : Nat → Value → Prop) (St : Addr → Nat → Heap → Prop),
    Begins u o Hq ∧ Hq s.heap ∧ (∀ i v, Pr i v → ∃ x, vs[i]? = some x ∧ RelV x v) ∧ (∀ b ∈ rest, b < s.heap.objs.size) ∧ (∀ it h, h.get? it = some o → Hq h → St it 0 h) ∧
    ∀ (A : Around) it, A.handled = none → it ∉ rest → Draws P w A it (it :: rest) vs.length Pr (St it)
section
variable {X : Cx} {pins : List (Addr × Obj)} {σ : L2.St} {H : Hp} {s : Shared} {a : Addr} {vs : List V} {x : Str}
theorem rel_at {its : List Value} {i : Nat} {v : Value} (r : Vals vs its) (e : its.toArray[i]? = some v) : ∃ x, vs[i]? = some x ∧ RelV x v := by
  have e : its[i]? = some v := by simpa using e
  have hi : i < vs.length := by rw [r.length]; exact (List.getElem?_eq_some_iff.mp e).1
  obtain ⟨u, e2, r2⟩ := r.get (i := i) (List.getElem?_eq_getElem hi)
  rw [e] at e2; cases e2
  exact ⟨_, List.getElem?_eq_getElem hi, r2⟩
theorem Src.list (I : Inv X pins σ H s) (h : SqL X.K H a vs) : Src X.prog X.w s (.ref a) vs := by
  obtain ⟨its, r, p, z⟩ := I.list h
  refine ⟨_, _, [a], fun i v => its.toArray[i]? = some v, fun it i h => h.IsListIter it a i ∧ h.IsList a its.toArray, begins_list a its.toArray, p.isList, fun i v e => rel_at r e, fun b hb => ?_, fun it h ho hl => ?_, fun A it hh hn => ?_⟩
  · have e : b = a := by simpa using hb
    rw [e]; exact p.lt
  · exact (⟨⟨_, ho, rfl, rfl⟩, hl⟩ : h.IsListIter it a 0 ∧ h.IsList a its.toArray)
  · have e : vs.length = its.toArray.size := by rw [r.length, List.size_toArray]
    rw [e]
    exact Draws.list hh it a (fun q => hn (by simp [q])) its.toArray
theorem Src.tuple (I : Inv X pins σ H s) (h : SqT X.K H a vs) : Src X.prog X.w s (.ref a) vs := by
  obtain ⟨its, r, p, z⟩ := I.tuple h
  obtain ⟨o1, ho1, _⟩ := id p
  refine ⟨_, _, [a], fun i v => its.toArray[i]? = some v, fun it i h => h.IsTupleIter it a i ∧ h.IsTuple a its.toArray, begins_tuple a its.toArray, p, fun i v e => rel_at r e, fun b hb => ?_, fun it h ho hl => ?_, fun A it hh hn => ?_⟩
  · have e : b = a := by simpa using hb
    rw [e]; exact Heap.lt_size ho1
  · exact (⟨⟨_, ho, rfl, rfl⟩, hl⟩ : h.IsTupleIter it a 0 ∧ h.IsTuple a its.toArray)
  · have e : vs.length = its.toArray.size := by rw [r.length, List.size_toArray]
    rw [e]
    exact Draws.tuple hh it a (fun q => hn (by simp [q])) its.toArray
def chrV (x : Str) : List V := x.cps.toList.map fun c => V.str ⟨#[c]⟩
theorem Src.text {t : Tok} : Src X.prog X.w s (.str x t) (chrV x) := by
  refine ⟨_, _, [], fun i v => ∃ c u, x.cps[i]? = some c ∧ v = .str ⟨#[c]⟩ u, fun it i h => h.IsStrIter it (strIterType x) x t i, begins_text x t, trivial, ?_, fun b hb => (by simp at hb), fun it h ho _ => ⟨_, ho, rfl, rfl⟩, fun A it hh hn => ?_⟩
  · rintro i v ⟨c, u, e, rfl⟩
    exact ⟨.str ⟨#[c]⟩, by unfold chrV; rw [List.getElem?_map, Array.getElem?_toList, e]; rfl, u, rfl⟩
  · have e : (chrV x).length = x.cps.size := by unfold chrV; rw [List.length_map, Array.length_toList]
    rw [e]
    exact Draws.text hh it x t
end
/-- the pairs laid, each in a new tuple -/
inductive ZipH : List (V × V) → Hp → List Addr → Hp → Prop
  | nil (H : Hp) : ZipH [] H [] H
  | snoc {ps : List (V × V)} {H H' : Hp} {Ts : List Addr} {T : Addr} {x y : V} (h : ZipH ps H Ts H') (n : H' T = none) : ZipH (ps ++ [(x, y)]) H (Ts ++ [T]) (upd H' T (.tup [x, y]))
section
variable {X : Cx} {pins : List (Addr × Obj)} {σ : L2.St} {H0 : Hp} {s : Shared} {A1 : Around} {z TI TO i1 i2 q : Addr} {fp1 fp2 : List Addr} {P1 P2 : Nat → Value → Prop} {St1 St2 : Nat → Heap → Prop} {xs ys : List V}
theorem ZSt.keep {h h' : Heap} {i : Nat} {n1 n2 : Nat} {A : Around} (S : ZipSep2 z TI TO i1 i2 fp1 fp2) (D1 : Draws X.prog X.w A i1 fp1 n1 P1 St1) (D2 : Draws X.prog X.w A i2 fp2 n2 P2 St2) (st : ZSt z TI TO i1 i2 St1 St2 i h)
    (k : ∀ b o, b ≠ q → h.get? b = some o → h'.get? b = some o) (hq : ∃ o, h'.get? q = some o) (qz : q ≠ z) (qI : q ≠ TI) (qO : q ≠ TO) (q1 : q ∉ fp1) (q2 : q ∉ fp2) : ZSt z TI TO i1 i2 St1 St2 i h' := by
  obtain ⟨hTI, s1, s2, c⟩ := st
  refine ⟨k _ _ qI.symm hTI, D1.frame _ _ _ s1 fun b hb o e => k _ _ (fun e2 => q1 (e2 ▸ hb)) e, D2.frame _ _ _ s2 fun b hb o e => k _ _ (fun e2 => q2 (e2 ▸ hb)) e, ?_⟩
  rcases c with ⟨hz, a1, a2, hO⟩ | ⟨T, f, oT, hz, hT⟩
  · exact .inl ⟨k _ _ qz.symm hz, a1, a2, k _ _ qO.symm hO⟩
  · by_cases e : T = q
    · obtain ⟨o, ho⟩ := hq
      exact .inr ⟨T, f, o, k _ _ qz.symm hz, by rw [e]; exact ho⟩
    · exact .inr ⟨T, f, oT, k _ _ qz.symm hz, k _ _ e hT⟩
end
section
variable {X : Cx} {pins : List (Addr × Obj)} {σ : L2.St} {H : Hp} {s : Shared} {Q : VK} {v1 v2 : Value} {xs ys : List V} {p p2 q pos : Pos} {e1 e2 : Expr} {ta : TA}
/-- what a list(zip(..)) reads -/
def SrcV (K : PySem.W.Frag) (H : Hp) (v : V) (xs : List V) : Prop := (∃ a, v = .ref a ∧ (SqL K H a xs ∨ SqT K H a xs)) ∨ ∃ x, v = .str x ∧ xs = chrV x
def rLz (K : PySem.W.Frag) : List V → Hp → VK → Prop := fun vs H1 Q => ∃ a v2 xs ys, vs = [.ref a, v2] ∧ (SqL K H1 a xs ∨ SqT K H1 a xs) ∧ SrcV K H1 v2 ys ∧ ∀ q Ts H', ZipH (xs.zip ys) H1 Ts H' → H' q = none → Q (.ref q) (upd H' q (.lst (Ts.map V.ref)))
end
end ZipL

set_option Elab.async false
set_option linter.all false
set_option maxRecDepth 4000
set_option maxHeartbeats 4000000
/-! enumerate of a tuple -/
namespace EnumT
open PySem PySem.Spec PyProof.Rows L2
section
variable {prog : Program} {w : World} {A : Around} {E : Value → Shared → Prop} {s : Shared}
end
def Itu (K : PySem.W.Frag) (a : Addr) : It :=
  ⟨fun i H => ∃ (xs : List V) (x : V), SqT K H a xs ∧ xs[i]? = some x, fun i H v H' => ∃ T x, v = .ref T ∧ H T = none ∧ H' = upd H T (.tup [.int (i : Nat), x]) ∧ ∀ xs, SqT K H a xs → xs[i]? = some x, fun i H => ∃ xs : List V, SqT K H a xs ∧ i = xs.length⟩
def iEnumU (K : PySem.W.Frag) (ta : TA) : TI := fun σ H R => ta σ H fun vs H1 => ∃ a xs, vs = [.ref a] ∧ SqT K H1 a xs ∧ R (Itu K a) H1
end EnumT

set_option Elab.async false
set_option linter.all false
set_option maxRecDepth 4000
set_option maxHeartbeats 4000000
/-! list(d.values()) -/
namespace ValsL
open PySem PySem.Spec PyProof.Rows L2
/-- the values of the dict at d, in their order -/
inductive DV (H : Hp) (d : Addr) : List V → Prop
  | t {kvs : List (List L2.Key × V)} (e : Rd H d (.dT kvs)) : DV H d (kvs.map Prod.snd)
  | i {kvs : List (L2.Key × V)} (e : Rd H d (.dK kvs)) : DV H d (kvs.map Prod.snd)
section
variable {X : Cx} {pins : List (Addr × Obj)} {σ : L2.St} {H : Hp} {s : Shared} {d : Addr} {vs : List V}
variable {Q : VK} {p q pos apos : Pos} {e : Expr} {td : TE}
def tLv (td : TE) : TE := fun σ H Q => td σ H fun x H1 => ∃ d vs, x = .ref d ∧ DV H1 d vs ∧ ∀ l, H1 l = none → Q (.ref l) (upd H1 l (.lst vs))
/-! ### {k: v}, k a tuple of ints and texts -/
def tDisp1 (tk tv : TE) : TE := fun σ H Q => ∀ p, H p = none → tk σ (upd H p (.dT [])) fun x H1 => tv σ H1 fun y H2 => ∃ (k : List L2.Key) (b : Addr), x = .ref b ∧ H2 p = some (.dT []) ∧ H2 b = some (.tup (k.map kV)) ∧ Q (.ref p) (upd H2 p (.dT (putK [] k y)))
end
end ValsL

set_option Elab.async false
set_option linter.all false
set_option maxRecDepth 4000
set_option maxHeartbeats 4000000
/-! for k, v in d.items(), the keys tuples -/
namespace ItemsT
open PySem PySem.Spec PyProof.Rows L2
/-- the pairs of the locked dict at d, in their order -/
def Itit (d : Addr) (o : Obj) (kvs : List (List L2.Key × V)) : It :=
  ⟨fun i H => H d = some (.frz o (.dT kvs)) ∧ i < kvs.length, fun i H x H' => ∃ T k v q, kvs[i]? = some (k, v) ∧ x = .ref T ∧ H T = none ∧ H q = some (.tup (k.map kV)) ∧ H' = upd H T (.tup [.ref q, v]),
    fun i H => H d = some (.frz o (.dT kvs)) ∧ kvs.length ≤ i⟩
section
variable {X : Cx} {pins : List (Addr × Obj)} {σ : L2.St} {H : Hp} {s : Shared} {d : Addr} {o : Obj} {kvs : List (List L2.Key × V)}
end
/-- .. in e.items(), the dict locked -/
def iItemsT (td : TE) : TI := fun σ H R => td σ H fun x H1 => ∃ d o kvs, x = .ref d ∧ H1 d = some (.frz o (.dT kvs)) ∧ R (Itit d o kvs) H1
end ItemsT

set_option Elab.async false
set_option linter.all false
set_option maxRecDepth 4000
set_option maxHeartbeats 4000000
/-! repr of data in which empty dicts stand -/
namespace Lk
open PySem PySem.Spec PyProof.Rows L2
mutual
/-- data as it stands on a heap; a dict is empty -/
inductive Rz (h : Heap) : Value → PyData → Prop
  | plain {v : Value} {d : PyData} {as : List Addr} (r : Reads h v d as) (n : d.hasDict = false) : Rz h v d
  | nix {a : Addr} {as : List Addr} (r : Reads h (.ref a) (.dict []) as) (n : sysModules ∉ as) : Rz h (.ref a) (.dict [])
  | lst {a : Addr} {o : Obj} {vs : Array Value} {n : Nat} {xs : List PyData} (e1 : h.get? a = some o) (e2 : o.cls = .type "list") (e3 : o.data = .seq vs n) (r : RzAll h vs.toList xs) : Rz h (.ref a) (.list xs)
  | tup {a : Addr} {o : Obj} {vs : Array Value} {n : Nat} {xs : List PyData} (e1 : h.get? a = some o) (e2 : o.cls = .type "tuple") (e3 : o.data = .seq vs n) (r : RzAll h vs.toList xs) : Rz h (.ref a) (.tuple xs)
inductive RzAll (h : Heap) : List Value → List PyData → Prop
  | nil : RzAll h [] []
  | cons {v : Value} {d : PyData} {vs : List Value} {ds : List PyData} (r : Rz h v d) (rs : RzAll h vs ds) : RzAll h (v :: vs) (d :: ds)
end
section
variable {prog : Program} {w : World} {h : Heap}
mutual
theorem Rz.reads : ∀ {v : Value} {d : PyData}, Rz h v d → ∃ as, Reads h v d as
  | _, _, .plain r _ => ⟨_, r⟩
  | _, _, .nix r _ => ⟨_, r⟩
  | _, _, .lst e1 e2 e3 r => let ⟨_, q⟩ := RzAll.reads r; ⟨_, .list e1 e2 e3 q⟩
  | _, _, .tup e1 e2 e3 r => let ⟨_, q⟩ := RzAll.reads r; ⟨_, .tuple e1 e2 e3 q⟩
theorem RzAll.reads : ∀ {v : List Value} {d : List PyData}, RzAll h v d → ∃ as, ReadsAll h v d as
  | _, _, .nil => ⟨_, .nil⟩
  | _, _, .cons r rs => let ⟨_, q⟩ := Rz.reads r; let ⟨_, qs⟩ := RzAll.reads rs; ⟨_, .cons q qs⟩
end
/-- what is shown of it, with the addresses within -/
def Kz (prog : Program) (w : World) (h : Heap) (v : Value) (d : PyData) : Prop := ∃ bs, ReadAtMost h d.depth bs ∧ ReprK prog w bs h d.depth v d.shown
def KzAll (prog : Program) (w : World) (h : Heap) (v : List Value) (d : List PyData) : Prop := ∃ bs, ReadAtMost h (PyData.depthAll d) bs ∧ ReprAllK prog w bs h (PyData.depthAll d) v (PyData.shownAll d)
mutual
theorem Rz.kz : ∀ {v : Value} {d : PyData}, Rz h v d → d.showable = true → d.shown.length ≤ sizeLine → Kz prog w h v d
  | _, _, .plain r n, s, z => ReprK.of_reads r s (fun e => by rw [n] at e; cases e) z
  | _, _, .nix r n, s, z => ReprK.of_reads r s (fun _ => n) z
  | _, _, .lst (xs := xs) (vs := vs) e1 e2 e3 r, s, z => by
    have lz : (listText (PyData.shownAll xs)).length ≤ sizeLine := by rw [PyData.shown] at z; exact z
    obtain ⟨cs, m, k⟩ := RzAll.kz r (by rw [PyData.showable] at s; exact s) fun t ht => Nat.le_trans (listText_mem_le ht) lz
    obtain ⟨_, q⟩ := r.reads
    have rd := Reads.list e1 e2 e3 q
    have lt : PyData.depthAll xs < (PyData.list xs).depth := by rw [PyData.depth]; omega
    have nn := not_mem_of_deeper rd lt m
    refine ⟨_ :: cs, .cons rd (Nat.le_of_lt lt) m, ?_⟩
    rw [PyData.depth, PyData.shown]
    rcases vs with ⟨_ | ⟨y, l⟩⟩
    · cases r
      rw [PyData.shownAll, listText_nil]
      exact .listEmpty e1 e2 e3
    · exact .list e1 e2 e3 nn (by have := k.length_eq; simpa using this) fun i u e => k.item i u (by simpa using e)
  | _, _, .tup (xs := xs) e1 e2 e3 r, s, z => by
    have lz : (tupleText (PyData.shownAll xs)).length ≤ sizeLine := by rw [PyData.shown] at z; exact z
    obtain ⟨cs, m, k⟩ := RzAll.kz r (by rw [PyData.showable] at s; exact s) fun t ht => Nat.le_trans (tupleText_mem_le ht) lz
    obtain ⟨_, q⟩ := r.reads
    have rd := Reads.tuple e1 e2 e3 q
    have lt : PyData.depthAll xs < (PyData.tuple xs).depth := by rw [PyData.depth]; omega
    have nn := not_mem_of_deeper rd lt m
    refine ⟨_ :: cs, .cons rd (Nat.le_of_lt lt) m, ?_⟩
    rw [PyData.depth, PyData.shown]
    exact .tuple e1 e2 e3 nn k
theorem RzAll.kz : ∀ {v : List Value} {d : List PyData}, RzAll h v d → PyData.showableAll d = true → (∀ t ∈ PyData.shownAll d, t.length ≤ sizeLine) → KzAll prog w h v d
  | _, _, .nil, _, _ => ⟨[], fun _ q => (nomatch q), by rw [PyData.shownAll]; exact .nil⟩
  | _, _, .cons (d := d) (ds := ds) r rs, s, z => by
    rw [PyData.showableAll, Bool.and_eq_true] at s
    rw [PyData.shownAll] at z
    obtain ⟨b1, m1, k1⟩ := Rz.kz r s.1 (z _ List.mem_cons_self)
    obtain ⟨b2, m2, k2⟩ := RzAll.kz rs s.2 fun t q => z t (List.mem_cons_of_mem _ q)
    unfold KzAll
    rw [PyData.depthAll, PyData.shownAll]
    exact ⟨b1 ++ b2, (m1.mono (Nat.le_max_left _ _)).append (m2.mono (Nat.le_max_right _ _)), .cons ((k1.more fun _ q => List.mem_append_left _ q).level_le (Nat.le_max_left _ _)) (k2.more_le (fun _ q => List.mem_append_right _ q) (Nat.le_max_right _ _))⟩
end
end
/-! ### the same of what is tracked -/
mutual
inductive Dz (K : PySem.W.Frag) (H : Hp) : V → PyData → Prop
  | plain {v : V} {d : PyData} (r : Dp K H v d) (n : d.hasDict = false) : Dz K H v d
  | nix {a : Addr} (e : H a = some (.dK [])) : Dz K H (.ref a) (.dict [])
  | lst {a : Addr} {vs : List V} {ds : List PyData} (e : SqL K H a vs) (r : DzAll K H vs ds) : Dz K H (.ref a) (.list ds)
  | tup {a : Addr} {vs : List V} {ds : List PyData} (e : SqT K H a vs) (r : DzAll K H vs ds) : Dz K H (.ref a) (.tuple ds)
inductive DzAll (K : PySem.W.Frag) (H : Hp) : List V → List PyData → Prop
  | nil : DzAll K H [] []
  | cons {v : V} {d : PyData} {vs : List V} {ds : List PyData} (r : Dz K H v d) (rs : DzAll K H vs ds) : DzAll K H (v :: vs) (d :: ds)
end
section
variable {X : Cx} {pins : List (Addr × Obj)} {σ : L2.St} {H : Hp} {s : Shared}
mutual
theorem Dz.rz (I : Inv X pins σ H s) : ∀ {v : V} {d : PyData}, Dz X.K H v d → ∀ u, RelV v u → Rz s.heap u d
  | _, _, .plain r n, u, ru => let ⟨_, q⟩ := Dp.reads I _ _ u r ru; .plain q n
  | _, _, .nix (a := a) e, u, ru => by
    cases (show u = Value.ref a from ru)
    obtain ⟨_, ns, vs, kv, o, es, ep, g, ex, dd, el, pr, _⟩ := I.hok a _ e
    cases kv
    have en : es.toList = [] := by
      cases q : es.toList with
      | nil => rfl
      | cons x y => rw [q] at pr; nomatch pr
    refine .nix (as := a :: [] ++ []) (.dict g ex.1 dd (by rw [en]; exact .nil) (by rw [en]; exact .nil)) fun m => ?_
    simp at m
    rw [← m] at ns
    simp at ns
  | _, _, .lst (a := a) e r, u, ru => by
    cases (show u = Value.ref a from ru)
    obtain ⟨its, rv, ⟨o, n, ho, hc, _, hd⟩, _⟩ := I.list e
    exact .lst ho hc hd (by simpa using DzAll.rz I r its rv)
  | _, _, .tup (a := a) e r, u, ru => by
    cases (show u = Value.ref a from ru)
    obtain ⟨its, rv, ⟨o, ho, hc, n, hd⟩, _⟩ := I.tuple e
    exact .tup ho hc hd (by simpa using DzAll.rz I r its rv)
theorem DzAll.rz (I : Inv X pins σ H s) : ∀ {v : List V} {d : List PyData}, DzAll X.K H v d → ∀ us, Vals v us → RzAll s.heap us d
  | _, _, .nil, us, ru => by cases ru; exact .nil
  | _, _, .cons r rs, us, ru => by
    cases ru with
    | cons r1 r2 => exact .cons (Dz.rz I r _ r1) (DzAll.rz I rs _ r2)
end
end
/-- repr of lists and tuples in which empty dicts stand -/
def rReprZ (K : PySem.W.Frag) : List V → Hp → VK → Prop := fun xs H Q => ∃ (a : Addr) (d : PyData), xs = [.ref a] ∧ Dz K H (.ref a) d ∧ d.showable = true ∧ d.depth ≤ 8 ∧ d.shown.length ≤ sizeLine ∧ Q (.str d.shown) H
end Lk

set_option Elab.async false
set_option linter.all false
set_option maxRecDepth 4000
set_option maxHeartbeats 4000000
/-! list(zip(a, b)) in the mirror -/
namespace Mi
open PySem PySem.Spec PyProof.Rows L2
section
variable {Γ : Ga} {H G : Hp} {cs ts : List Nat} {W : WX} {X : Cx} {ks : List Kd} {g : EA}
inductive DP (Γ : Ga) (G : Hp) : List (V × V) → List D → Prop
  | nil : DP Γ G [] []
  | cons {x y : V} {dx dy : D} {ps : List (V × V)} {ds : List D} (h1 : Dt Γ G x dx) (h2 : Dt Γ G y dy) (r : DP Γ G ps ds) : DP Γ G ((x, y) :: ps) (.tup [dx, dy] :: ds)
theorem DP.of : ∀ {vs ws : List V} {as bs : List D}, Dts Γ G vs as → Dts Γ G ws bs → DP Γ G (vs.zip ws) (zipL as bs)
  | [], _, [], _, .nil, _ => .nil
  | _ :: _, [], _ :: _, [], .cons _ _, .nil => .nil
  | _ :: _, _ :: _, _ :: _, _ :: _, .cons h r, .cons h2 r2 => .cons h h2 (DP.of r r2)
theorem DP.snoc : ∀ {ps : List (V × V)} {x y : V} {ds : List D}, DP Γ G (ps ++ [(x, y)]) ds → ∃ ds' dx dy, ds = ds' ++ [.tup [dx, dy]] ∧ DP Γ G ps ds' ∧ Dt Γ G x dx ∧ Dt Γ G y dy
  | [], _, _, _, .cons h1 h2 .nil => ⟨[], _, _, rfl, .nil, h1, h2⟩
  | _ :: ps, x, y, _, .cons h1 h2 r => by
    obtain ⟨ds', dx, dy, rfl, r', q1, q2⟩ := DP.snoc r
    exact ⟨_ :: ds', dx, dy, rfl, .cons h1 h2 r', q1, q2⟩
def zipD : D → Option (List D)
  | .str x => some (chrL x)
  | d => listD d
def b_listZip : List D → Option D
  | [d, e] => (listD d).bind fun as => (zipD e).map fun bs => .lst (zipL as bs)
  | _ => none
variable {p p2 q pos : Pos} {e1 e2 : Expr}
/-! ### enumerate of a tuple -/
def k_enumU : List D → Option (List D)
  | [.tup ds] => some (enumL 0 ds)
  | _ => none
end
end Mi

set_option Elab.async false
set_option linter.all false
set_option maxRecDepth 4000
set_option maxHeartbeats 4000000
/-! dicts whose keys are tuples (dit) or ints and texts (dii) -/
namespace Mi
open PySem PySem.Spec PyProof.Rows L2
section
variable {κ : Type} [DecidableEq κ]
def valD (ds : List (κ × D)) (k : κ) : Option D := (ds.find? fun e => decide (e.1 = k)).map (·.2)
def dPut (ds : List (κ × D)) (k : κ) (d : D) : List (κ × D) := if (ds.any fun e => decide (e.1 = k)) = true then ds.map (fun e => if e.1 = k then (e.1, d) else e) else ds ++ [(k, d)]
/-- pairs alike: the same keys, the values as the data tell -/
inductive DkG (Γ : Ga) (H : Hp) {κ : Type} : List (κ × V) → List (κ × D) → Prop
  | nil : DkG Γ H [] []
  | cons {k : κ} {v : V} {d : D} {vs : List (κ × V)} {ds : List (κ × D)} (h : Dt Γ H v d) (r : DkG Γ H vs ds) : DkG Γ H ((k, v) :: vs) ((k, d) :: ds)
variable {Γ : Ga} {H G : Hp} {vs : List (κ × V)} {ds : List (κ × D)} {k : κ} {v : V} {d : D}
theorem DkG.len (r : DkG Γ G vs ds) : vs.length = ds.length := by
  induction r with
  | nil => rfl
  | cons h r ih => rw [List.length_cons, List.length_cons, ih]
theorem DkG.any (r : DkG Γ G vs ds) (k : κ) : (vs.any fun e => decide (e.1 = k)) = (ds.any fun e => decide (e.1 = k)) := by
  induction r with
  | nil => rfl
  | cons h r ih => rw [List.any_cons, List.any_cons, ih]
theorem DkG.val (r : DkG Γ G vs ds) (k : κ) : (valD ds k = none ∧ valV vs k = none) ∨ ∃ d v, valD ds k = some d ∧ valV vs k = some v ∧ Dt Γ G v d := by
  induction r with
  | nil => exact .inl ⟨rfl, rfl⟩
  | @cons k' v d vs ds h r ih =>
    by_cases e : k' = k
    · refine .inr ⟨d, v, ?_, valV_pos e, h⟩
      unfold valD
      rw [List.find?_cons_of_pos (by simpa using e)]; rfl
    · have e1 : valD ((k', d) :: ds) k = valD ds k := by
        unfold valD
        rw [List.find?_cons_of_neg (by simpa using e)]
      rw [e1, valV_neg (p := (k', v)) e]
      exact ih
theorem DkG.mapk (r : DkG Γ G vs ds) (h : Dt Γ G v d) : DkG Γ G (vs.map fun kv => if kv.1 = k then (kv.1, v) else kv) (ds.map fun e => if e.1 = k then (e.1, d) else e) := by
  induction r with
  | nil => exact .nil
  | @cons k' v' d' vs ds h' r ih =>
    rw [List.map_cons, List.map_cons]
    dsimp only
    split
    · exact .cons h ih
    · exact .cons h' ih
theorem DkG.snoc (r : DkG Γ G vs ds) (h : Dt Γ G v d) : DkG Γ G (vs ++ [(k, v)]) (ds ++ [(k, d)]) := by
  induction r with
  | nil => exact .cons h .nil
  | cons h' r ih => exact .cons h' ih
theorem DkG.put (r : DkG Γ G vs ds) (h : Dt Γ G v d) : DkG Γ G (putK vs k v) (dPut ds k d) := by
  unfold putK dPut
  rw [r.any k]
  split
  · exact r.mapk h
  · exact r.snoc h
end
section
variable {Γ : Ga} {H G H0 : Hp} {cs ts : List Nat} {W : WX} {X : Cx} {S : Sx}
theorem DkT.g : ∀ {vs : List (List Key × V)} {ds : List (List Key × D)}, DkT Γ H vs ds → DkG Γ H vs ds
  | _, _, .nil => .nil
  | _, _, .cons h r => .cons h (DkT.g r)
theorem DkI.g : ∀ {vs : List (Key × V)} {ds : List (Key × D)}, DkI Γ H vs ds → DkG Γ H vs ds
  | _, _, .nil => .nil
  | _, _, .cons h r => .cons h (DkI.g r)
theorem DkG.t : ∀ {vs : List (List Key × V)} {ds : List (List Key × D)}, DkG Γ H vs ds → DkT Γ H vs ds
  | _, _, .nil => .nil
  | _, _, .cons h r => .cons h (DkG.t r)
theorem DkG.i : ∀ {vs : List (Key × V)} {ds : List (Key × D)}, DkG Γ H vs ds → DkI Γ H vs ds
  | _, _, .nil => .nil
  | _, _, .cons h r => .cons h (DkG.i r)
/-! ### keys -/
def kyI : D → Option Key
  | .int i => some (.inl i)
  | .str s => some (.inr s)
  | _ => none
def kysI : List D → Option (List Key)
  | [] => some []
  | d :: ds => (kyI d).bind fun k => (kysI ds).map (k :: ·)
def kyT : D → Option (List Key)
  | .tup ds => kysI ds
  | _ => none
/-- what a dict holds at a key: none, not such a dict or key -/
def dgetD : D → D → Option (Option D)
  | .dit ds, k => (kyT k).map (valD ds)
  | .dii ds, k => (kyI k).map (valD ds)
  | _, _ => none
def dgD (a k : D) : Option D := (dgetD a k).bind id
def dinD (k a : D) : Option D := (dgetD a k).map fun o => .bl o.isSome
def dninD (k a : D) : Option D := (dgetD a k).map fun o => .bl (!o.isSome)
def dputD (a k v : D) : Option D := match a with
  | .dit ds => if ds.length < sizeLine then (kyT k).map fun q => .dit (dPut ds q v) else none
  | .dii ds => if ds.length < sizeLine then (kyI k).map fun q => .dii (dPut ds q v) else none
  | _ => none
def rDGet : R2 := fun x y H Q => ∃ a v, x = .ref a ∧ DGet H a y (some v) ∧ Q v H
def rDIn : R2 := fun y x H Q => ∃ a o, x = .ref a ∧ DGet H a y o ∧ Q (.bl o.isSome) H
def rDNotIn : R2 := fun y x H Q => ∃ a o, x = .ref a ∧ DGet H a y o ∧ Q (.bl (!o.isSome)) H
variable {a b e : Expr} {f g : E} {pos tpos : Pos} {i : Nat}
/-! ### {} -/
def eDit : E := fun ρ => some (.ok (.dit []) ρ)
def eDii : E := fun ρ => some (.ok (.dii []) ρ)
/-! ### d[k] = v, d an own dict -/
def sDput (i : Nat) (f g : E) : SM := fun ρ => sBind (f ρ) fun v ρ1 => match ρ1[i]? with
  | some (some _) => sBind (g ρ1) fun k ρ2 => match ρ2[i]? with
    | some (some d) => match dputD d k v with
      | some d' => some (.nx (ρ2.set i (some d')))
      | none => none
    | _ => none
  | _ => none
/-! ### list(d.values()) -/
def valsD : D → Option D
  | .dit ds => some (.lst (ds.map (·.2)))
  | .dii ds => some (.lst (ds.map (·.2)))
  | _ => none
def rVals (x : V) (H : Hp) (Q : VK) : Prop := ∃ d vs, x = .ref d ∧ ValsL.DV H d vs ∧ ∀ l, H l = none → Q (.ref l) (upd H l (.lst vs))
variable {p q apos : Pos}
/-! ### {k: v}, k a tuple -/
def eDisp1 (g f : E) : E := fun ρ => eBind (g ρ) fun k ρ1 => match kyT k with
  | some q => eBind (f ρ1) fun d ρ2 => some (.ok (.dit (dPut [] q d)) ρ2)
  | none => none
/-! ### d.get(k, z) -/
def dget2D (a k z : D) : Option D := (dgetD a k).map fun o => o.getD z
def isDit : D → Bool
  | .dit _ => true
  | .dii _ => true
  | _ => false
def eDget2 (f g h : E) : E := fun ρ => eBind (f ρ) fun a ρ1 => if isDit a = true then eBind (g ρ1) fun k ρ2 => eBind (h ρ2) fun z ρ3 => lift (dget2D a k z) ρ3 else none
end
end Mi

set_option Elab.async false
set_option linter.all false
set_option maxRecDepth 4000
set_option maxHeartbeats 4000000
/-! a dict of data with tuple keys, locked while a statement walks it -/
namespace Mi
open PySem PySem.Spec PyProof.Rows L2
/-- alike but for dicts that are locked or not -/
def Sy (G G2 : Hp) : Prop := ∀ x, G x = G2 x ∨ ∃ kvs o, (G x = some (.dT kvs) ∧ G2 x = some (.frz o (.dT kvs))) ∨ (G x = some (.frz o (.dT kvs)) ∧ G2 x = some (.dT kvs))
section
variable {Γ : Ga} {G G2 H : Hp} {a : Addr}
theorem Sy.at (s : Sy G G2) {u : HO} (e : G a = some u) (h1 : ∀ kvs, u ≠ .dT kvs) (h2 : ∀ o kvs, u ≠ .frz o (.dT kvs)) : G2 a = some u := by
  rcases s a with h | ⟨kvs, o, ⟨h, _⟩ | ⟨h, _⟩⟩
  · rw [← h]; exact e
  · rw [e] at h; exact absurd (Option.some.inj h) (h1 _)
  · rw [e] at h; exact absurd (Option.some.inj h) (h2 _ _)
theorem Sy.rdT (s : Sy G G2) {kvs : List (List Key × V)} (e : Rd G a (.dT kvs)) : Rd G2 a (.dT kvs) := by
  rcases s a with h | ⟨k2, o, ⟨h, q⟩ | ⟨h, q⟩⟩
  · rcases e with e | ⟨o, e⟩
    · exact .inl (h ▸ e)
    · exact .inr ⟨o, h ▸ e⟩
  · rcases e with e | ⟨o2, e⟩
    · rw [e] at h; cases h; exact .inr ⟨_, q⟩
    · rw [e] at h; cases h
  · rcases e with e | ⟨o2, e⟩
    · rw [e] at h; cases h
    · rw [e] at h; cases h; exact .inl q
theorem Sy.rd (s : Sy G G2) {u : HO} (e : Rd G a u) (h1 : ∀ kvs, u ≠ .dT kvs) (h3 : ∀ o kvs, u ≠ .frz o (.dT kvs)) : Rd G2 a u := by
  rcases e with e | ⟨o, e⟩
  · exact .inl (s.at e h1 h3)
  · exact .inr ⟨o, s.at e (fun _ z => nomatch z) fun o2 k z => by cases z; exact h1 _ rfl⟩
mutual
theorem Dt.sy (s : Sy G G2) : ∀ {v : V} {d : D}, Dt Γ G v d → Dt Γ G2 v d
  | _, _, .non => .non
  | _, _, .bl b => .bl b
  | _, _, .int i => .int i
  | _, _, .str x => .str x
  | _, _, .ty n => .ty n
  | _, _, .cls n => .cls n
  | _, _, .tup h r => .tup (s.at h (fun _ z => nomatch z) fun _ _ z => nomatch z) (Dts.sy s r)
  | _, _, .lst h r => .lst (s.at h (fun _ z => nomatch z) fun _ _ z => nomatch z) (Dts.sy s r)
  | _, _, .slst h => .slst (h.elim (fun h => .inl (s.rd h (fun _ z => nomatch z) fun _ _ z => nomatch z)) .inr)
  | _, _, .dK h r => .dK (s.at h (fun _ z => nomatch z) fun _ _ z => nomatch z) (Dks.sy s r)
  | _, _, .dI h r => .dI (s.rd h (fun _ z => nomatch z) fun _ _ z => nomatch z) (DkI.sy s r)
  | _, _, .dT h r => .dT (s.rdT h) (DkT.sy s r)
  | _, _, .ins h r => .ins (s.at h (fun _ z => nomatch z) fun _ _ z => nomatch z) (Dfs.sy s r)
  | _, _, .exc h => .exc (s.at h (fun _ z => nomatch z) fun _ _ z => nomatch z)
  | _, _, .excF h hx hn r => .excF (s.at h (fun _ z => nomatch z) fun _ _ z => nomatch z) (s.at hx (fun _ z => nomatch z) fun _ _ z => nomatch z) hn (Dfs.sy s r)
theorem Dts.sy (s : Sy G G2) : ∀ {v : List V} {d : List D}, Dts Γ G v d → Dts Γ G2 v d
  | _, _, .nil => .nil
  | _, _, .cons h r => .cons (Dt.sy s h) (Dts.sy s r)
theorem Dfs.sy (s : Sy G G2) : ∀ {v : List (Str × V)} {d : List (Str × D)}, Dfs Γ G v d → Dfs Γ G2 v d
  | _, _, .nil => .nil
  | _, _, .cons h r => .cons (Dt.sy s h) (Dfs.sy s r)
theorem Dks.sy (s : Sy G G2) : ∀ {v : List (Key × V)} {d : List (D × D)}, Dks Γ G v d → Dks Γ G2 v d
  | _, _, .nil => .nil
  | _, _, .cons h r => .cons (Dt.sy s h) (Dks.sy s r)
theorem DkT.sy (s : Sy G G2) : ∀ {v : List (List Key × V)} {d : List (List Key × D)}, DkT Γ G v d → DkT Γ G2 v d
  | _, _, .nil => .nil
  | _, _, .cons h r => .cons (Dt.sy s h) (DkT.sy s r)
theorem DkI.sy (s : Sy G G2) : ∀ {v : List (Key × V)} {d : List (Key × D)}, DkI Γ G v d → DkI Γ G2 v d
  | _, _, .nil => .nil
  | _, _, .cons h r => .cons (Dt.sy s h) (DkI.sy s r)
end
end
section
variable {Γ : Ga} {X : Cx} {S : Sx} {cs cs' : List Nat}
/-- a statement that reads the dict at slot i, and that lets nothing out -/
def sLocked (i : Nat) (F : SM) : SM := fun ρ => match ρ[i]? with
  | some (some (.dit _)) => match F ρ with
    | some (.ex _ _) => none
    | r => r
  | _ => none
/-! ### for k in d, the keys tuples -/
def keyU (k : List Key) : D := .tup (k.map dKey)
theorem DkG.at {κ : Type} {G : Hp} {vs : List (κ × V)} {ds : List (κ × D)} (r : DkG Γ G vs ds) : ∀ {i : Nat} {k : κ} {d : D}, ds[i]? = some (k, d) → ∃ v, vs[i]? = some (k, v) ∧ Dt Γ G v d := by
  induction r with
  | nil => intro i k d e; simp at e
  | cons h r ih =>
    intro i k d e
    cases i with
    | zero =>
      rw [List.getElem?_cons_zero] at e
      cases e
      exact ⟨_, rfl, h⟩
    | succ i =>
      rw [List.getElem?_cons_succ] at e ⊢
      exact ih e
def sForK (i : Nat) (t : Tg) (B : SM) : SM := fun ρ => match ρ[i]? with
  | some (some (.dit ds)) => loopF t B (ds.map fun e => keyU e.1) ρ
  | _ => none
/-! ### for k, v in d.items(), the keys tuples -/
def sForI (i : Nat) (t : Tg) (B : SM) : SM := fun ρ => match ρ[i]? with
  | some (some (.dit ds)) => loopF t B (ds.map fun e => .tup [keyU e.1, e.2]) ρ
  | _ => none
end
end Mi

set_option Elab.async false
set_option linter.all false
set_option maxRecDepth 4000
set_option maxHeartbeats 4000000
/-! x in xs, texts -/
namespace Mi
open PySem PySem.Spec PyProof.Rows L2
def txtsD : List D → Option (List Str)
  | [] => some []
  | .str s :: ds => (txtsD ds).map (s :: ·)
  | _ => none
def tlD : D → Option (List D)
  | .tup ds => some ds
  | .lst ds => some ds
  | _ => none
def inSB : D → D → Option Bool
  | .str s, d => ((tlD d).bind txtsD).map fun ns => decide (s ∈ ns)
  | _, _ => none
def inSD (a b : D) : Option D := (inSB a b).map .bl
def notinSD (a b : D) : Option D := (inSB a b).map fun c => .bl (!c)
section
variable {Γ : Ga} {X : Cx}
/-! ### list of a text -/
def rListS : List V → Hp → VK → Prop := fun xs H Q => ∃ x : Str, xs = [.str x] ∧ x.length ≤ sizeLine ∧ ∀ l, H l = none → Q (.ref l) (upd H l (.lst (x.cps.toList.map fun c => V.str ⟨#[c]⟩)))
def b_listS : List D → Option D
  | [.str x] => if x.length ≤ sizeLine then some (.lst (chrL x)) else none
  | _ => none
end
end Mi

set_option Elab.async false
set_option linter.all false
set_option maxRecDepth 4000
set_option maxHeartbeats 4000000
/-! exceptions that are caught and kept -/
namespace Mi
open PySem PySem.Spec PyProof.Rows L2
section
variable {Γ : Ga} {S : Sx} {cs c1 : List Nat} {σ σ1 : L2.St} {H G H1 G1 : Hp} {ρ : Env}
/-- which exceptions a clause takes -/
abbrev CTab := List (String × Bool)
def CTab.Ok (Γ : Ga) (C : Value) (t : CTab) : Prop := ∀ n b, t.lookup n = some b → PySem.W.exmOne Γ.K (.ref (Γ.ca n)) C = some b
/-- try: .. except C as e: c = e; slot i is e's, j is c's -/
def sTryAs (t : CTab) (i j : Nat) (F : SM) : SM := fun ρ => match F ρ with
  | some (.ex (.exc n fs) ρ1) => match t.lookup n with
    | some true => if i < ρ1.length then some (.nx ((ρ1.set j (some (.exc n fs))).set i none)) else none
    | some false => some (.ex (.exc n fs) ρ1)
    | none => none
  | some (.ex _ _) => none
  | r => r
/-! ### isinstance of an exception that is kept -/
abbrev XTab := List (String × Kn × Bool)
def XTab.get (t : XTab) (n : String) (b : Kn) : Option Bool := (t.find? fun e => decide (e.1 = n ∧ e.2.1 = b)).map (·.2.2)
def XTab.Ok (Γ : Ga) (t : XTab) : Prop := ∀ e ∈ t, PySem.W.kitOne Γ.K (.ref (Γ.ca e.1)) (e.2.1.val Γ) = some e.2.2 ∧ ExcC Γ.K (Γ.ca e.1)
def b_isx (t : XTab) : List D → Option D
  | [.exc n _, c] => (clD c).bind fun b => (t.get n b).map .bl
  | _ => none
/-- isinstance of an exception that is kept, with fields or not -/
def rIsX (K : PySem.W.Frag) : List V → Hp → VK → Prop := fun xs H Q => ∃ (a D : Addr) (dx : Option Addr) (c : V) (cv : Value) (b : Bool), xs = [.ref a, c] ∧ H a = some (Lk.ExK (.ref D) dx a) ∧ (∀ x, dx = some x → ∃ fs, H x = some (.xd fs)) ∧ ExcC K D ∧ ClsV c cv ∧ PySem.W.kitOne K (.ref D) cv = some b ∧ Q (.bl b) H
theorem call_isX {X : Cx} : CallR X (.builtin "isinstance") (rIsX X.K) := by
  intro pins s σ H xs us Q I r h
  obtain ⟨a, D, dx, c, cv, b, rfl, ha, hx, C, k, e, q⟩ := h
  obtain ⟨u1, u2, rfl, r1, r2⟩ := vals2 r
  cases (show u1 = Value.ref a from r1)
  have e2 := k.eq r2
  subst e2
  obtain ⟨⟨oc, od, oda, osl⟩, vs, g, ⟨z1, z2⟩, f⟩ := (I.hok a _ ha).1
  dsimp only at z1 z2 f
  subst z1 z2 f
  have hcl : (PySem.W.clsIn X.K D).isSome = true := by obtain ⟨cd, hc, _⟩ := PySem.W.any_some C.hd; rw [hc]; rfl
  cases od with
  | none =>
    have J : PySem.W.InstAt s.heap a { cls := .ref D, dict := none, data := .fields vs, slots := osl } D none := ⟨g, rfl, rfl, trivial⟩
    exact PySem.W.kia_one (PySem.W.kitx_exc hcl C.hg C.hk C.hs C.ha C.hn C.ht C.hm) I.kIn J e (fun z => nomatch z) fun tk => ⟨.bl b, H, I.tok tk, rfl, q⟩
  | some x =>
    obtain ⟨fs, h1⟩ := hx x rfl
    obtain ⟨_, ⟨o, es, ep, ho, _⟩, _⟩ := I.hok x _ h1
    have J : PySem.W.InstAt s.heap a { cls := .ref D, dict := some x, data := .fields vs, slots := osl } D (some o) := ⟨g, rfl, rfl, ho⟩
    exact PySem.W.kia_one (PySem.W.kitx_exc hcl C.hg C.hk C.hs C.ha C.hn C.ht C.hm) I.kIn J e (fun z => nomatch z) fun tk => ⟨.bl b, H, I.tok tk, rfl, q⟩
theorem o_isx {X : Cx} {K : PySem.W.Frag} (hK : X.K = K := by rfl) : CallR X (.builtin "isinstance") (rIsX K) := by
  subst hK
  exact call_isX
theorem root_exc {v : V} {n : String} {gs : List (Str × D)} (s : Same G H) {H0 : Hp} (h : RM Γ .root H0 H G v (.exc n gs)) : ∃ a dx, v = .ref a ∧ H a = some (Lk.ExK (.ref (Γ.ca n)) dx a) ∧ ∀ x, dx = some x → ∃ fs, H x = some (.xd fs) := by
  rcases h with h | ⟨a, o, rfl, q, h⟩
  · cases h with
    | exc h => exact ⟨_, _, rfl, s _ _ h, fun _ z => by cases z⟩
    | excF h hx hn r => exact ⟨_, _, rfl, s _ _ h, fun _ z => by cases z; exact ⟨_, s _ _ hx⟩⟩
  · cases h
theorem so_isx {t : XTab} (ok : t.Ok Γ) : SoA Γ .full (rIsX Γ.K) (b_isx t) := fun H G xs ds z Q s rv e q => by
  unfold b_isx at e
  split at e
  · obtain ⟨kb, e3, e4⟩ := Option.bind_eq_some_iff.mp e
    obtain ⟨b, e5, rfl⟩ := Option.map_eq_some_iff.mp e4
    obtain ⟨en, e6, rfl⟩ := Option.map_eq_some_iff.mp e5
    have e7 := List.find?_some e6
    obtain ⟨h1, h2⟩ := of_decide_eq_true e7
    obtain ⟨q1, q2⟩ := ok en (List.mem_of_find?_eq_some e6)
    obtain ⟨v, v2, rfl, w1, w2⟩ := rv2 rv
    subst h1 h2
    obtain ⟨a, dx, rfl, g1, g2⟩ := root_exc s w1
    exact ⟨a, _, dx, v2, _, en.2.2, rfl, g1, g2, q2, cl_root w2 e3, q1, q _ H G (Ext.refl s) (.bl _)⟩
  · cases e
/-! ### repr of lists and tuples in which empty dicts stand -/
mutual
def D.pyz : D → Option PyData
  | .non => some .none
  | .bl b => some (.bool b)
  | .int i => some (.int i)
  | .str s => some (.str s)
  | .tup ds => (D.pyzs ds).map .tuple
  | .lst ds => (D.pyzs ds).map .list
  | .slst ns => some (.list (ns.map .int))
  | .dic kvs => if kvs.isEmpty then some (.dict []) else none
  | _ => none
def D.pyzs : List D → Option (List PyData)
  | [] => some []
  | d :: ds => (D.pyz d).bind fun p => (D.pyzs ds).map (p :: ·)
end
theorem noDict_ints : ∀ ns : List Int, (PyData.list (ns.map PyData.int)).hasDict = false
  | [] => by simp only [List.map_nil, PyData.hasDict, PyData.hasDictAll]
  | n :: ns => by
    have := noDict_ints ns
    simp only [PyData.hasDict] at this
    simp only [List.map_cons, PyData.hasDict, PyData.hasDictAll, this, Bool.or_self]
mutual
theorem pyz_dt {H : Hp} : ∀ {d : D} {v : V} {p : PyData}, Dt Γ H v d → D.pyz d = some p → Lk.Dz Γ.K H v p
  | .non, _, _, h, e => by cases h; cases e; exact .plain .non (by simp only [PyData.hasDict])
  | .bl b, _, _, h, e => by cases h; cases e; exact .plain (.bl b) (by simp only [PyData.hasDict])
  | .int b, _, _, h, e => by cases h; cases e; exact .plain (.int b) (by simp only [PyData.hasDict])
  | .str b, _, _, h, e => by cases h; cases e; exact .plain (.str b) (by simp only [PyData.hasDict])
  | .tup ds, _, _, h, e => by
    obtain ⟨ps, e1, rfl⟩ := Option.map_eq_some_iff.mp e
    cases h with
    | tup h r => exact .tup (SqT.of h) (pyzs_dt r e1)
  | .lst ds, _, _, h, e => by
    obtain ⟨ps, e1, rfl⟩ := Option.map_eq_some_iff.mp e
    cases h with
    | lst h r => exact .lst (SqL.of h) (pyzs_dt r e1)
  | .slst ns, _, _, h, e => by
    cases e
    cases h with
    | slst h => exact .plain (.lst h (dpAll_ints ns)) (noDict_ints ns)
  | .dic [], _, _, h, e => by
    cases e
    cases h with
    | dK h r => cases r; exact .nix h
  | .dic (_ :: _), _, _, _, e => by cases e
  | .ty _, _, _, _, e => by cases e
  | .cls _, _, _, _, e => by cases e
  | .dit _, _, _, _, e => by cases e
  | .dii _, _, _, _, e => by cases e
  | .ins _ _, _, _, _, e => by cases e
  | .exc _ _, _, _, _, e => by cases e
theorem pyzs_dt {H : Hp} : ∀ {ds : List D} {vs : List V} {ps : List PyData}, Dts Γ H vs ds → D.pyzs ds = some ps → Lk.DzAll Γ.K H vs ps
  | [], _, _, h, e => by cases h; cases e; exact .nil
  | d :: ds, _, _, h, e => by
    obtain ⟨p, e1, e2⟩ := Option.bind_eq_some_iff.mp e
    obtain ⟨ps, e3, rfl⟩ := Option.map_eq_some_iff.mp e2
    cases h with
    | cons h r => exact .cons (pyz_dt h e1) (pyzs_dt r e3)
end
def reprZP (p : PyData) : Option Str := if p.showable = true ∧ p.depth ≤ 8 ∧ p.shown.length ≤ sizeLine then some p.shown else none
def reprZ : D → Option Str
  | .tup ds => (D.pyzs ds).bind fun ps => reprZP (.tuple ps)
  | .lst ds => (D.pyzs ds).bind fun ps => reprZP (.list ps)
  | d => reprD d
def b_reprZ : List D → Option D
  | [d] => (reprZ d).map .str
  | _ => none
/-- repr, either way -/
def rReprX (K : PySem.W.Frag) : List V → Hp → VK → Prop := fun xs H Q => Lk.rReprV K xs H Q ∨ Lk.rReprZ K xs H Q
end
/-! ### small things -/
section
variable {Γ : Ga} {cs ts : List Nat} {W : WX} {m : Md} {X : Cx} {e : Expr} {pos : Pos} {C : Value}
/-- {} as data -/
def eDic : E := fun ρ => some (.ok (.dic []) ρ)
/-- an expression that is never met -/
def eDead : E := fun _ => none
theorem CTab.ok_nil : CTab.Ok Γ C [] := fun _ _ e => by cases e
theorem CTab.ok_cons {n : String} {b : Bool} {t : CTab} (h : PySem.W.exmOne Γ.K (.ref (Γ.ca n)) C = some b) (r : t.Ok Γ C) : CTab.Ok Γ C ((n, b) :: t) := fun k d e => by
  rw [List.lookup_cons] at e
  cases q : k == n with
  | true =>
    rw [q] at e
    cases e
    rw [eq_of_beq q]
    exact h
  | false => rw [q] at e; exact r k d e
theorem XTab.ok_nil : XTab.Ok Γ [] := fun _ h => absurd h List.not_mem_nil
theorem XTab.ok_cons {n : String} {c : Kn} {b : Bool} {t : XTab} (h : PySem.W.kitOne Γ.K (.ref (Γ.ca n)) (c.val Γ) = some b) (k : ExcC Γ.K (Γ.ca n)) (r : t.Ok Γ) : XTab.Ok Γ ((n, c, b) :: t) := fun e he => by
  rcases List.mem_cons.mp he with rfl | he
  · exact ⟨h, k⟩
  · exact r e he
/-- of a table that is told class by class -/
theorem XTab.ok_app {t u : XTab} (h : t.Ok Γ) (r : u.Ok Γ) : XTab.Ok Γ (t ++ u) := fun e he => (List.mem_append.mp he).elim (h e) (r e)
end
end Mi

set_option Elab.async false
set_option linter.all false
set_option maxRecDepth 4000
set_option maxHeartbeats 4000000
/-! f-strings of texts and integers, also in what is raised -/
namespace Mi
open PySem PySem.Spec PyProof.Rows L2
section
variable {Γ : Ga} {S : Sx} {cs cs' ts : List Nat} {W : WX} {m : Md} {X : Cx} {e : Expr} {pos : Pos} {f : E}
def fmtD : D → Option Str
  | .str y => if y.length ≤ sizeLine then some y else none
  | .int i => if i.natAbs.log2 < 1920 then some (toString i) else none
  | _ => none
/-- the parts from the left: true, a value put in braces; false, a text as it stands -/
def eJs : List (Bool × E) → Str → E
  | [], acc => fun ρ => some (.ok (.str acc) ρ)
  | p :: fs, acc => fun ρ => eBind (p.2 ρ) fun d ρ1 => match fmtD d with
    | some y => if (acc ++ y).length ≤ sizeLine then eJs fs (acc ++ y) ρ1 else none
    | none => none
/-- an f-string's parts with their mirrors -/
inductive PJm (Γ : Ga) (cs ts : List Nat) (W : WX) (X : Cx) : List Expr → List (Bool × E) → Prop where
  | nil : PJm Γ cs ts W X [] []
  | txt {x : Str} {k : Nat} {p : Pos} {es : List Expr} {fs : List (Bool × E)} (r : PJm Γ cs ts W X es fs) : PJm Γ cs ts W X (.Constant (.str x) k p :: es) ((false, eC (.str x)) :: fs)
  | fmt {e : Expr} {p : Pos} {f : E} {es : List Expr} {fs : List (Bool × E)} (h : PE X e (tE Γ cs ts W .full f)) (r : PJm Γ cs ts W X es fs) : PJm Γ cs ts W X (.FormattedValue e (-1) none p :: es) ((true, f) :: fs)
theorem PJm.is {es : List Expr} {fs : List (Bool × E)} (h : PJm Γ cs ts W X es fs) : ∃ tes, PJ X es tes ∧ ∀ (acc : Str) (σ : L2.St) (H G : Hp) (ρ : Env) (Q : VK), Rep Γ cs σ H G ρ → Fin Γ cs ts W .full σ H G Q (eJs fs acc ρ) → tJs tes acc σ H fun out H1 => Q (.str out) H1 := by
  induction h with
  | nil => exact ⟨[], .nil, fun acc σ H G ρ Q rep fin => fin (.str acc) H G rep Stp.refl (.str acc)⟩
  | @txt x k p es fs r ih =>
    obtain ⟨tes, h1, h2⟩ := ih
    refine ⟨_, .cons pe_str h1, fun acc σ H G ρ Q rep fin => ?_⟩
    have fin : Fin Γ cs ts W .full σ H G Q (match fmtD (.str x) with
      | some y => if (acc ++ y).length ≤ sizeLine then eJs fs (acc ++ y) ρ else none
      | none => none) := fin
    show ∃ y : Str, _ = V.str y ∧ _
    by_cases hx : x.length ≤ sizeLine
    · rw [show fmtD (.str x) = some x from if_pos hx] at fin
      dsimp only at fin
      by_cases hl : (acc ++ x).length ≤ sizeLine
      · rw [if_pos hl] at fin
        exact ⟨x, rfl, hl, h2 _ σ H G ρ Q rep fin⟩
      · rw [if_neg hl] at fin; exact fin.elim
    · rw [show fmtD (.str x) = none from if_neg hx] at fin; exact fin.elim
  | @fmt e p f es fs h r ih =>
    obtain ⟨tes, h1, h2⟩ := ih
    refine ⟨_, .cons (pe_fmt h) h1, fun acc σ H G ρ Q rep fin => ?_⟩
    refine ⟨G, ρ, rep, fin_bind all_sub (show Fin Γ cs ts W .full σ H G Q (eBind (f ρ) _) from fin) fun v d ρ1 H1 G1 rep1 st1 rm fin1 => ?_⟩
    cases d with
    | str y =>
      cases (show Dt Γ G1 v (.str y) from rm)
      by_cases hx : y.length ≤ sizeLine
      · rw [show fmtD (.str y) = some y from if_pos hx] at fin1
        dsimp only at fin1
        by_cases hl : (acc ++ y).length ≤ sizeLine
        · rw [if_pos hl] at fin1
          exact .inl ⟨y, rfl, hx, y, rfl, hl, h2 _ σ H1 G1 ρ1 Q rep1 (fin1.step st1)⟩
        · rw [if_neg hl] at fin1; exact fin1.elim
      · rw [show fmtD (.str y) = none from if_neg hx] at fin1; exact fin1.elim
    | int i =>
      cases (show Dt Γ G1 v (.int i) from rm)
      by_cases hx : i.natAbs.log2 < 1920
      · rw [show fmtD (.int i) = some (toString i) from if_pos hx] at fin1
        replace fin1 : Fin Γ cs ts W .full σ H G Q (if (acc ++ (toString i : Str)).length ≤ sizeLine then eJs fs (acc ++ (toString i : Str)) ρ1 else none) := fin1
        by_cases hl : (acc ++ (toString i : Str)).length ≤ sizeLine
        · rw [if_pos hl] at fin1
          exact .inr ⟨i, rfl, hx, _, rfl, hl, h2 _ σ H1 G1 ρ1 Q rep1 (fin1.step st1)⟩
        · rw [if_neg hl] at fin1; exact fin1.elim
      · rw [show fmtD (.int i) = none from if_neg hx] at fin1; exact fin1.elim
    | _ => exact (show False from fin1).elim
/-- raise X(e), of the class's own making -/
def sRaise1 (n : String) (f : E) : SM := fun ρ => sBind (f ρ) fun _ ρ1 => some (.ex (.exc n []) ρ1)
end
end Mi

set_option Elab.async false
set_option linter.all false
set_option maxRecDepth 100000
set_option maxHeartbeats 4000000
/-! own exceptions whose __init__ says super().__init__(f'..{p}') and then self.f = p -/
namespace Lk
open PySem PySem.Spec PyProof.Rows L2
/-- what such an __init__ can show: nothing, or a number that is not too long -/
def shownO (txt : Str) : V → Option Str
  | .non => if (Str.empty ++ txt ++ ("None" : Str)).length ≤ sizeLine then some (Str.empty ++ txt ++ ("None" : Str)) else none
  | .int i => if i.natAbs.log2 < 1920 ∧ (Str.empty ++ txt ++ (toString i : Str)).length ≤ sizeLine then some (Str.empty ++ txt ++ (toString i : Str)) else none
  | _ => none
/-- the two rows of the def -/
abbrev oexBody (txt par fld : Str) (k3 : Nat) (p0 p1 p2 p3 p4 p5 p6 p7 p8 p9 p10 p11 p12 : Pos) : List Stmt :=
  [.Expr (.Call (.Attribute (.Call (.Name "super" p0) [] [] p1) "__init__" p2) [.JoinedStr [.Constant (.str txt) k3 p3, .FormattedValue (.Name par p4) (-1) none p5] p6] [] p7) p8,
   .Assign [.Attribute (.Name "self" p9) fld p10] (.Name par p11) p12]
/-- C(e): what its __init__ keeps -/
def spOex (C : Addr) (txt fld : Str) : Sp := fun vs H Q _ => ∃ (a : Addr) (y : V), vs = [.ref a, y] ∧ H a = some (exo a C none) ∧ (shownO txt y).isSome = true ∧
  ∀ d, H d = none → d ≠ a → Q .non (upd (upd H d (exd d [(fld, y)])) a (exo a C (some d)))
section
variable {prog : Program} {w : World} {A : Around} {E : Value → Shared → Prop} {h : Heap} {g : Array GenState} {d : Drawn} {t : Nat} {os : OsState}
/-- the bound ValueError.__init__, called -/
theorem call_veInit {nm q : Str} {C N u e t0 : Addr} {bs bm : List Value} {sn : List Str} {sub : List Value} {ab : Bool} {col : Option Bool} {dd : Option Addr} {k0 k1 k2 k3 k5 : Option Value} {xs : List Value} {Q : Value → Shared → Prop}
    (hC : h.get? C = some (excClassObj nm q C N bs bm true sn sub ab col dd k0 k1 k2 k3 k5 "ValueError.__new__")) (he : h.get? e = some (PySem.W.excRec (.ref C) t0 none .none .none (.bool false))) (hu : h.get? u = some (PySem.W.kxs_mw "ValueError.__init__" e)) (hz : xs.length ≤ sizeLine)
    (q : ∀ (h' : Heap) (t1 : Addr), (∀ b o, b ≠ e → h.get? b = some o → h'.get? b = some o) → h'.get? e = some (PySem.W.excRec (.ref C) t1 none .none .none (.bool false)) → Q .none ⟨h', g, d, t, os⟩) :
    wpAny (model prog w) A (call (.ref u) xs) Q E ⟨h, g, d, t, os⟩ := by
  refine wpAny_call (codeAny_of_tree ?_)
  show wpAny _ A.in1 (callAny (.ref u) ⟨xs, []⟩) _ _ _
  simp only [callAny]
  refine wpAny_bind (wpAny_load hu ?_)
  have n1 : (Value.type "method-wrapper" == Value.type "method" || Value.type "method-wrapper" == Value.type "builtin_function_or_method" || Value.type "method-wrapper" == Value.type "method-wrapper") = true := by decide
  dsimp only [PySem.W.kxs_mw]
  rw [n1]
  refine PySem.W.KFB.if_so rfl (PySem.W.KFB.if_so (by decide) ?_)
  have FB := F.excBase_ValueError
  refine wpAny_bind (PySem.W.check_bound_init FB.toExcCallFacts hC he rfl (wpAny_bind (wpAny_pure (wpAny_pure ⟨plainId_quiet FB.init.plain _, codeAny_builtin FB.initEntry ?_⟩))))
  exact PySem.W.exc_init_tree he hz fun h' k1 k2 _ => q h' _ k1 k2
end
section
variable {P : Program} {w : World} {H : Hp} {hp h' : Heap} {a C d t1 : Addr} {fs : List Addr} {fld : Str} {y : V} {u : Value}
/-- what stands of the heap when an exception has been given its first field -/
theorem un_oex (ok : HOk P w H hp) (ea : H a = some (exo a C none)) (k : ∀ b o, b ≠ a → hp.get? b = some o → h'.get? b = some o) (dl : hp.objs.size ≤ d)
    (hx : h'.get? a = some (PySem.W.excRec (.ref C) t1 (some d) .none .none (.bool false))) (hn : h'.Ns1 d fun z => if z = fld then some u else none) (ry : RelV y u) :
    Un fs [] H (upd (upd H d (exd d [(fld, y)])) a (exo a C (some d))) hp h' ∧ HOk P w (upd (upd H d (exd d [(fld, y)])) a (exo a C (some d))) h' := by
  have nd : H d = none := ok.fresh dl
  have dn : hp.get? d = none := Heap.get?_none_of_le dl
  have off : ∀ {b : Addr}, H b = none → b ≠ a := fun n z => by rw [z, ea] at n; cases n
  have other : ∀ {b : Addr} {o : HO}, H b = some o → o ≠ exo a C none → b ≠ a ∧ b ≠ d := fun e n => ⟨fun z => n (by rw [z, ea] at e; exact (Option.some.inj e).symm), fun z => by rw [z, nd] at e; cases e⟩
  have same : ∀ {b : Addr} {o : HO}, H b = some o → o ≠ exo a C none → upd (upd H d (exd d [(fld, y)])) a (exo a C (some d)) b = some o := fun e n => by
    rw [upd_ne (other e n).1, upd_ne (other e n).2]; exact e
  refine ⟨⟨fun b o q n _ _ => k b o (off n) q, fun b o q n _ _ => ⟨o.slots, k b o (off n) q⟩, fun b o q n _ => ?_, fun b o q _ => ?_, fun b xs q => same q (Ne.symm exo_tup), fun b o v q => same q (Ne.symm exo_frz), fun b ps q => ⟨#[], by rw [same q (Ne.symm exo_tbl)]; simp⟩⟩, fun b o q => ?_⟩
  · have : b ≠ d := fun z => by rw [z, dn] at q; cases q
    rw [upd_ne (off n), upd_ne this]; exact n
  · by_cases z : b = a
    · subst z; exact ⟨_, hx⟩
    · exact ⟨o, k b o z q⟩
  · by_cases z : b = a
    · subst z
      rw [upd_same] at q
      cases q
      exact exo_ok hx
    · rw [upd_ne z] at q
      by_cases z2 : b = d
      · subst z2
        rw [upd_same] at q
        cases q
        exact exd_ok hn (relO_put (fs := []) ry fun _ => trivial)
      · rw [upd_ne z2] at q
        refine (ok b o q).stay (fun c v hc e => k c v ?_ e) (fun c e => same e (Ne.symm exo_own)) fun c xs e => same e (Ne.symm exo_tup)
        rcases hc with hc | hc
        · exact hc ▸ z
        · exact (other hc (Ne.symm exo_own)).1
end
/-- what the written part says of the class and of its __init__ -/
structure OexI (P : Program) (K : PySem.W.Frag) (C : Addr) (cda cc : Addr) : Prop where
  T : OexC K C
  code : ∃ ccl cdd vs ccs file tf, K.lookup cda = some (⟨ccl, cdd, .fields vs, ccs⟩ : Obj) ∧ vs[2]? = some (.str file tf) ∧ ((P.main.file : Str) == file) = true
  cell : ∃ cl cld csl, K.lookup cc = some (⟨cl, cld, .cell (some (.ref C)), csl⟩ : Obj)
  up : PySem.W.ks_superIn K C C "__init__" = some (some (.builtin "ValueError.__init__"))
  sub : PySem.W.mroIn K C (.ref C) = some true
  ve : PySem.W.subIn K (.ref C) (.type "ValueError") = some true
  any : PySem.W.nsIn K cStatics "thirdparty.any" = some none
  free : (P.main.scope.names.lookup ("super" : Str)).isSome = false
section
variable {CX : CXT} {P : Program} {w : World} {K : PySem.W.Frag} {mg : Str → Option Value} {base : Heap} {k : Nat} {f C cda cc : Addr} {name qual txt par fld : Str} {params : Arguments} {scope : Scope} {dV kV doc pm ct oc : Value} {an od : Option Addr} {osl : Array (Option Value)} {k3 : Nat} {p0 p1 p2 p3 p4 p5 p6 p7 p8 p9 p10 p11 p12 : Pos} {ar : Arg}
theorem oex_fn (lk : K.lookup f = some ⟨oc, od, .func (PySem.W.ksFn name qual params (oexBody txt par fld k3 p0 p1 p2 p3 p4 p5 p6 p7 p8 p9 p10 p11 p12) scope dV kV doc pm an (.ref cda) ct cc), osl⟩) (hcd : PySem.W.codeIn K (.ref cda) qual = true) (G : OexI P K C cda cc)
    (hno : PySem.W.findIn K (.ref C) fld = some none) (hmg : mg "super" = none) (hp : (params.posonlyargs ++ params.args).head? = some ar) (ha : ar.arg = "self")
    (hcell : ∀ x ∈ scope.names, x.2 ≠ .cell) (ls : scope.names.lookup ("self" : Str) = some .local) (lp : scope.names.lookup par = some .local) (lu : scope.names.lookup ("super" : Str) = some .globalImplicit) (lc : scope.names.lookup ("__class__" : Str) = some .free)
    (np : par ≠ "self") (npd : (par == ("__debug__" : Str)) = false) (hco : scope.isCoroutine = false) (hgen : scope.isGenerator = false) (hk : scope.kind = .function)
    (hev : ∀ L, ∃ pl, eval (.Call (.Attribute (.Call (.Name "super" p0) [] [] p1) "__init__" p2) [.JoinedStr [.Constant (.str txt) k3 p3, .FormattedValue (.Name par p4) (-1) none p5] p6] [] p7) (PySem.W.ksEnv qual scope L f (.ref cda) cc) = (do
      let ov ← attributeBase (.Call (.Name "super" p0) [] [] p1) "__init__" (PySem.W.ksEnv qual scope L f (.ref cda) cc) (eval (.Call (.Name "super" p0) [] [] p1) (PySem.W.ksEnv qual scope L f (.ref cda) cc))
      standAt p2.atName
      let (fx, first) ← holding [ov] (getMethod ov "__init__" pl)
      callWith p7 fx first (backTo p7 (starEach [.JoinedStr [.Constant (.str txt) k3 p3, .FormattedValue (.Name par p4) (-1) none p5] p6] (PySem.W.ksEnv qual scope L f (.ref cda) cc))) [])) :
    FnOk P w K mg base CX (k + 1) f (PySem.W.ksFn name qual params (oexBody txt par fld k3 p0 p1 p2 p3 p4 p5 p6 p7 p8 p9 p10 p11 p12) scope dV kV doc pm an (.ref cda) ct cc) ["self", par] (spOex C txt fld) := by
  refine ⟨fun vs H Q E h => ?_, fun A outer s H args us vs Q E hr e0 hb r hsp => ?_⟩
  · obtain ⟨a, y, rfl, _⟩ := h
    rfl
  obtain ⟨a, y, rfl, ea, hy, hq⟩ := hsp
  obtain ⟨u0, u, rfl, r0, ry⟩ := vals2 r
  obtain rfl : u0 = Value.ref a := r0
  have KX : K.In s.heap := e0.mod.kin.keeps fun b o e => (e0.bs b o e).1
  have lim : s.heap.NoLimit := e0.mod.nolimit.keeps fun b o e => (e0.bs b o e).1
  obtain ⟨nm, q0, N, bs, bm, sn, sub, ab, col, dd, k0, k1, k2, k4, k5, hC, hbm⟩ := G.T.cls
  have hcl : PySem.W.clsIn K C = some { name := nm, bases := bs, mro := .ref C :: bm, ns := N, qualname := q0, hasDict := true, slotNames := sn, subclasses := sub, abstract := ab, collection := col, hasDel := false } := by unfold PySem.W.clsIn; rw [hC] <;> rfl
  obtain ⟨t0, hoe⟩ := exo_at e0.hok ea
  obtain ⟨ccl, cdd, cvs, ccs, file, tf, hco1, hco2, hco3⟩ := G.code
  obtain ⟨cl, cld, csl, hce⟩ := G.cell
  refine ks_codeAny_call_defAt (fd := PySem.W.ksFn name qual params (oexBody txt par fld k3 p0 p1 p2 p3 p4 p5 p6 p7 p8 p9 p10 p11 p12) scope dV kV doc pm an (.ref cda) ct cc) (binds := [("self", .ref a), (par, u)]) hr.depth (KX _ _ lk) rfl lim (PySem.W.codeRec_of KX hcd) rfl hb hcell (fun x hx => ?_) (fun h1 hns hk1 => ?_) hco hgen hk
  · rcases List.mem_cons.mp hx with rfl | hx
    · exact ls
    · obtain rfl := List.mem_singleton.mp hx
      exact lp
  have X1 : K.In h1 := KX.keeps hk1
  have bk : ∀ b o, base.get? b = some o → h1.get? b = some o := fun b o e => hk1 b o (e0.bs b o e).1
  obtain ⟨mb, hb1, hb2⟩ := e0.mod.blt
  have vS : ∀ m : Str, m = "self" → List.lookup m [(("self" : Str), Value.ref a), (par, u)].reverse = some (.ref a) := fun m e => by
    subst e
    show List.lookup ("self" : Str) [(par, u), (("self" : Str), Value.ref a)] = _
    rw [List.lookup_cons]
    have : (("self" : Str) == par) = false := by simpa using fun z => np z.symm
    rw [this]
    rfl
  have vP : List.lookup par [(("self" : Str), Value.ref a), (par, u)].reverse = some u := by
    show List.lookup par [(par, u), (("self" : Str), Value.ref a)] = _
    rw [List.lookup_cons]
    simp
  obtain ⟨pl, hevL⟩ := hev s.heap.objs.size
  refine ks_wpAt_execs_cons (ks_wpAt_Expr_any (ks_wpAt_MethodCall (pl := pl) ?_ hevL) ?_ ?_)
  rotate_left
  · show (scope.kind == .module && _) = false
    rw [hk]; rfl
  · first | rfl | (show swapsWith _ _ _ _ = _; rfl)
  refine ks_wpAt_super_base (env := PySem.W.ksEnv qual scope s.heap.objs.size f (.ref cda) cc) lu lc rfl rfl (X1 _ _ lk) rfl hp rfl (X1 _ _ hco1) rfl hco2 hco3 G.free ?_
  refine PySem.W.ks_loadName_global hk lu (Calls.loadGlobal_builtin (e0.mod.glob.keeps bk) hmg (hb1.keeps bk) ((hb2 _ (by decide)).trans ?_) ⟨rfl, ?_⟩)
  · first | rfl | kernel_rfl
  refine wpAny_loadName_free hk lc rfl ⟨_, X1 _ _ hce, rfl⟩ ?_
  refine wpAny_loadName_local hk (by rw [ha]; exact ls) hns (vS _ ha) ?_
  have hCc := X1 _ _ hC
  refine ks_wpAny_isType_cls hCc rfl ⟨rfl, ?_⟩
  have hx1 := hk1 _ _ hoe
  refine ks_wpAny_call_super hCc rfl hx1 rfl (fun c e => nomatch e) (PySem.W.looks_mroIn X1 G.sub) (fun h2 e2 k2 => ?_)
  have X2 : K.In h2 := X1.keeps k2
  have hup := G.up
  unfold PySem.W.ks_superIn at hup
  rw [hcl] at hup
  have I2 : PySem.W.InstAt h2 a _ C none := ⟨k2 _ _ hx1, rfl, rfl, trivial⟩
  refine PySem.W.kxs_getMethod PySem.W.kxs_ValueError e2 (PySem.W.looks_opaque X2 G.any) (l₀ := .ref C :: bm) (fun A Q E s k q => wpAny_bind ((PySem.W.looks_clsIn X2 hcl) A _ E s k (wpAny_pure q))) rfl X2 hup (I2.type.andThen (PySem.W.looks_subIn X2 G.ve)) (PySem.W.ks_ne X2 I2 hcl) rfl ?_
  -- the args: the text
  have un : ∀ b o, h2.get? b = some o → (h2.push (PySem.W.kxs_mw "ValueError.__init__" a)).get? b = some o := fun b o e => Heap.get?_push_of_some _ e
  have au : (h2.push (PySem.W.kxs_mw "ValueError.__init__" a)).get? h2.objs.size = some (PySem.W.kxs_mw "ValueError.__init__" a) := Heap.get?_push_at rfl rfl
  have ns3 : (h2.push (PySem.W.kxs_mw "ValueError.__init__" a)).Ns s.heap.objs.size (fun x => List.lookup x [(("self" : Str), Value.ref a), (par, u)].reverse) := hns.keeps fun b o e => un b o (k2 b o e)
  refine PySem.W.kxs_callWith (i := "ValueError.__init__") (x := a) rfl ?_
  show wpAny _ _ (evalArgs (.ref h2.objs.size) true ((false, _) :: []) []) _ _ _
  refine Calls.evalArgs_plain (Calls.spliced_cons ?_)
  refine wpAny_JoinedStr (pos := p6) ?_
  have aL : s.heap.objs.size ≠ a := Ne.symm (Nat.ne_of_lt (Heap.lt_size hoe))
  -- the second row
  have row2 : ∀ (h4 : Heap) (t4 : Addr) (tk : Tok) (Ev : Value → Shared → Prop), (∀ b o, b ≠ a → s.heap.get? b = some o → h4.get? b = some o) → h4.get? a = some (PySem.W.excRec (.ref C) t4 none .none .none (.bool false)) →
      h4.Ns s.heap.objs.size (fun x => List.lookup x [(("self" : Str), Value.ref a), (par, u)].reverse) →
      PySem.wpAt (model P w) (A.deeper (PySem.W.ksEnv qual scope s.heap.objs.size f (.ref cda) cc)) (.func (oexBody txt par fld k3 p0 p1 p2 p3 p4 p5 p6 p7 p8 p9 p10 p11 p12) (PySem.W.ksEnv qual scope s.heap.objs.size f (.ref cda) cc))
        (execs [.Assign [.Attribute (.Name "self" p9) fld p10] (.Name par p11) p12] (PySem.W.ksEnv qual scope s.heap.objs.size f (.ref cda) cc)) (fun fl s' => CR CX outer P w H s Q E (.ok (.ret (match fl with | .ret v => v | _ => .none))) s') Ev ⟨h4, s.gens, s.drawn, tk, s.os⟩ := fun h4 t4 tk Ev ka kx kn => by
    refine wpAt_of_wpAny (wpAny_execs_cons (plainObj_wpAny_Assign_Attribute ?_ ?_))
    · refine wpAny_Name (wpAny_loadName_local hk lp kn vP ?_) npd
      refine wpAny_Name (wpAny_loadName_local hk ls kn (vS _ rfl) ?_) (by decide)
      have K4 : K.In h4 := fun b o e => ka b o (fun z => by
        have n := (e0.bs b o (e0.mod.kin b o e)).2
        rw [z, ea] at n
        cases n) (KX b o e)
      refine PySem.W.set_plain K4 (ox := PySem.W.excRec (.ref C) t4 none .none .none (.bool false)) (od := none) ⟨kx, rfl, rfl, trivial⟩ G.T.sa ?_
      refine PySem.HandSPX.exc_osa K4 kx hcl (show PySem.HandSPX.refsVE (.ref C :: bm) = true from hbm) rfl hno (fun h5 tk5 dx k5 dn dne hx hn => ?_)
      have le4 : s.heap.objs.size ≤ dx := by
        refine Nat.le_of_lt (Nat.lt_of_lt_of_le ?_ dn)
        obtain ⟨oL, es, ep, eL, _⟩ := kn
        exact Heap.lt_size eL
      obtain ⟨U, ok⟩ := un_oex (fs := frs outer) e0.hok ea (fun b o z e => k5 b o z (ka b o z e)) le4 hx hn ry
      exact wpAny_execs_nil ⟨.non, _, rfl, e0.bare, U, ok, rfl, hq dx (e0.hok.fresh le4) dne⟩
    · first | rfl | (show swapsWith _ _ _ _ = _; rfl)
  -- behind the text: ValueError.__init__, then the second row
  have fin : ∀ (x : Str) (tx tk : Tok) (Ev Ew : Value → Shared → Prop), wpAny (model P w) (A.deeper (PySem.W.ksEnv qual scope s.heap.objs.size f (.ref cda) cc)) (spliced []) (fun vs s2 => PySem.W.KxsAt "ValueError.__init__" h2.objs.size a s2.heap ∧
      wpAny (model P w) (A.deeper (PySem.W.ksEnv qual scope s.heap.objs.size f (.ref cda) cc)) (call (.ref h2.objs.size) (.str x tx :: vs)) (fun _ s' => PySem.wpAt (model P w) (A.deeper (PySem.W.ksEnv qual scope s.heap.objs.size f (.ref cda) cc)) (.func (oexBody txt par fld k3 p0 p1 p2 p3 p4 p5 p6 p7 p8 p9 p10 p11 p12) (PySem.W.ksEnv qual scope s.heap.objs.size f (.ref cda) cc))
        (execs [.Assign [.Attribute (.Name "self" p9) fld p10] (.Name par p11) p12] (PySem.W.ksEnv qual scope s.heap.objs.size f (.ref cda) cc)) (fun fl s' => CR CX outer P w H s Q E (.ok (.ret (match fl with | .ret v => v | _ => .none))) s') Ev s') Ew s2) Ew ⟨h2.push (PySem.W.kxs_mw "ValueError.__init__" a), s.gens, s.drawn, tk, s.os⟩ := fun x tx tk Ev Ew =>
    Calls.spliced_nil ⟨au, call_veInit (un _ _ (k2 _ _ hCc)) (un _ _ (k2 _ _ hx1)) au (by show 1 ≤ sizeLine; rw [sizeLine_eq]; decide) fun h4 t4 ka kb => row2 h4 t4 tk Ev (fun b o z e => ka b o z (un b o (k2 b o (hk1 b o e)))) kb
      (by
        obtain ⟨oL, es, ep, eL, r1⟩ := ns3
        exact ⟨oL, es, ep, ka _ _ aL eL, r1⟩)⟩
  have tl : ∀ {x : Str}, (Str.empty ++ txt ++ x).length ≤ sizeLine → (Str.empty ++ txt).length ≤ sizeLine := fun {x} z => by
    rw [strLen_append] at z
    omega
  have e0j : evalEach [.Constant (.str txt) k3 p3, .FormattedValue (.Name par p4) (-1) none p5] (PySem.W.ksEnv qual scope s.heap.objs.size f (.ref cda) cc) = [eval (.Constant (.str txt) k3 p3) (PySem.W.ksEnv qual scope s.heap.objs.size f (.ref cda) cc), eval (.FormattedValue (.Name par p4) (-1) none p5) (PySem.W.ksEnv qual scope s.heap.objs.size f (.ref cda) cc)] := by first | rfl | simp [evalEach]
  show Joins _ _ _ (evalEach [.Constant (.str txt) k3 p3, .FormattedValue (.Name par p4) (-1) none p5] (PySem.W.ksEnv qual scope s.heap.objs.size f (.ref cda) cc)) _ _ _
  rw [e0j]
  cases y with
  | non =>
    obtain rfl : u = Value.none := ry
    have hz : (Str.empty ++ txt ++ ("None" : Str)).length ≤ sizeLine := by
      by_cases z : (Str.empty ++ txt ++ ("None" : Str)).length ≤ sizeLine
      · exact z
      · rw [show shownO txt .non = none from if_neg z] at hy; cases hy
    refine Calls.Constant_str ⟨txt, _, rfl, tl hz, ?_⟩
    refine wpAny_FormattedValue_plain (wpAny_Name (wpAny_loadName_local hk lp ns3 vP ?_) npd)
    exact wpAny_formatField_none ⟨"None", _, rfl, hz, hz, fin _ _ _ _ _⟩
  | int i =>
    obtain ⟨ti, rfl⟩ := ry
    have hz : i.natAbs.log2 < 1920 ∧ (Str.empty ++ txt ++ (toString i : Str)).length ≤ sizeLine := by
      by_cases z : i.natAbs.log2 < 1920 ∧ (Str.empty ++ txt ++ (toString i : Str)).length ≤ sizeLine
      · exact z
      · rw [show shownO txt (.int i) = none from if_neg z] at hy; cases hy
    refine Calls.Constant_str ⟨txt, _, rfl, tl hz.2, ?_⟩
    refine wpAny_FormattedValue_plain (wpAny_Name (wpAny_loadName_local hk lp ns3 vP ?_) npd)
    exact wpAny_formatField_int hz.1 ⟨_, _, rfl, hz.2, hz.2, fin _ _ _ _ _⟩
  | _ => cases hy
end
/-- all that a raise of such a class asks -/
structure OexF (P : Program) (K : PySem.W.Frag) (C f : Addr) (d : FuncData) (par txt fld : Str) : Prop where
  T : OexC K C
  iC : PySem.W.findIn K (.ref C) "__init__" = some (some (.ref f))
  tI : PySem.W.typeIn K (.ref f) = some (.type "function")
  b : Binds K d ["self", par] []
  F : ∀ {w : World} {mg : Str → Option Value} {base : Heap} {k : Nat} {CX : CXT}, mg "super" = none → FnOk P w K mg base CX (k + 1) f d ["self", par] (spOex C txt fld)
  X : XfC K C
  no : PySem.W.findIn K (.ref C) fld = some none
theorem oexC_of {K : PySem.W.Frag} {C N : Addr} {nm q : Str} {bs bm : List Value} {sn : List Str} {sub : List Value} {ab : Bool} {col : Option Bool} {dd : Option Addr} {k0 k1 k2 k3 k5 : Option Value}
    (l : K.lookup C = some (excClassObj nm q C N bs bm true sn sub ab col dd k0 k1 k2 k3 k5 "ValueError.__new__")) (r : PySem.HandSPX.refsVE bm = true) (sa : PySem.W.findIn K (.ref C) "__setattr__" = some (some (.builtin "object.__setattr__")))
    (rb : PySem.W.subIn K (.ref C) (.type "BaseException") = some true) (rt : PySem.W.typeIn K (.ref C) = some (.type "type")) (k : PySem.W.keepIn K (.ref C) = true) : OexC K C :=
  ⟨⟨_, _, _, _, _, _, _, _, _, _, _, _, _, _, _, l, r⟩, sa, rb, rt, k⟩
end Lk

set_option Elab.async false
set_option linter.all false
set_option maxRecDepth 4000
set_option maxHeartbeats 4000000
/-! own exceptions that keep what they are made with, and the reading of it -/
namespace Mi
open PySem PySem.Spec PyProof.Rows L2
section
variable {Γ : Ga} {S : Sx} {G H : Hp} {cs cs' ts : List Nat} {W : WX} {m : Md} {X : Cx} {e : Expr} {pos p p2 : Pos} {f : E}
/-- what such an exception may keep here -/
def oexV : D → Option V
  | .non => some .non
  | .int i => some (.int i)
  | _ => none
theorem oexV_dt {d : D} {y : V} {H : Hp} (h : oexV d = some y) : Dt Γ H y d := by
  cases d with
  | non => cases h; exact .non
  | int i => cases h; exact .int i
  | _ => cases h
theorem oexV_is {d : D} {y v : V} {H : Hp} (h : oexV d = some y) (r : Dt Γ H v d) : v = y := by
  cases d with
  | non => cases h; cases r; rfl
  | int i => cases h; cases r; rfl
  | _ => cases h
/-- raise C(e), e kept as the field fld -/
def sRaiseX (n : String) (txt fld : Str) (f : E) : SM := fun ρ => sBind (f ρ) fun d ρ1 => match oexV d with
  | some y => if (Lk.shownO txt y).isSome = true then some (.ex (.exc n [(fld, d)]) ρ1) else none
  | none => none
/-- c.f of an exception that is kept -/
def tXk (K : PySem.W.Frag) (nm : Str) (te : TE) : TE := fun σ H Q => te σ H fun x H1 => ∃ (a C b : Addr) (fs : List (Str × V)) (v : V), x = .ref a ∧ H1 a = some (Lk.ExK (.ref C) (some b) a) ∧ H1 b = some (.xd fs) ∧ XfC K C ∧ PySem.W.findIn K (.ref C) nm = some none ∧ fs.lookup nm = some v ∧ Q v H1
theorem pe_xk {te : TE} {nm : Str} (he : PE X e te) (hb : attributeBase e nm X.env (eval e X.env) = eval e X.env := by rfl) : PE X (.Attribute e nm pos) (tXk X.K nm te) := by
  refine ⟨fun pins s σ H Q I h => ?_⟩
  refine attr_of hb (thn (he.run pins s σ H _ I h) fun u s1 hh => ?_)
  obtain ⟨x, H1, I1, rx, a, C, b, fs, v, rfl, ea, eb, T, no, lv, q⟩ := hh
  obtain rfl : u = Value.ref a := rx
  obtain ⟨oe, vs, g1, z1, f1⟩ := (I1.hok a _ ea).1
  have ox : ObjOk X.prog X.w H1 s1.heap b (.xd fs) := I1.hok b _ eb
  obtain ⟨mA, hns, hr⟩ := ox
  obtain ⟨od, ho, hl⟩ := lookIn_ns hns
  obtain ⟨w1, hw, rw1⟩ := RelO.some_of (v := v) (o := mA nm) (by rw [← lv]; exact hr nm)
  have J : PySem.W.InstAt s1.heap a oe C (some od) := ⟨g1, z1.1, by unfold PySem.W.notCls; rw [f1] <;> rfl, by rw [z1.2]; exact ho⟩
  exact HandSPX.exc_get I1.kIn J T.ga T.gg T.exC (PySem.W.findObj_own T.hdC no rfl (by rw [hl, hw])) (handed_of rw1) ⟨v, H1, I1.tok _, rw1, q⟩
def eXf (ns : List String) (nm : Str) (f : E) : E := fun ρ => eBind (f ρ) fun d ρ1 => match d with
  | .exc n fs => if n ∈ ns then (match fs.lookup nm with
    | some z => some (.ok z ρ1)
    | none => none) else none
  | _ => none
theorem root_excF {v : V} {n : String} {z : D} {nm : Str} {gs : List (Str × D)} (s : Same G H) {H0 : Hp} (h : RM Γ .root H0 H G v (.exc n gs)) (l : gs.lookup nm = some z) : ∃ a b fs u, v = .ref a ∧ H a = some (Lk.ExK (.ref (Γ.ca n)) (some b) a) ∧ H b = some (.xd fs) ∧ fs.lookup nm = some u ∧ Dt Γ G u z := by
  rcases h with h | ⟨a, o, rfl, q, h⟩
  · cases h with
    | exc h => cases l
    | excF h hx hn r =>
      obtain ⟨u, h3, h4⟩ := r.lookup l
      exact ⟨_, _, _, u, rfl, s _ _ h, s _ _ hx, h3, h4⟩
  · cases h
theorem me_xf {ns : List String} {nm : Str} (he : PE X e (tE Γ cs ts W .root f)) (hc : ∀ n ∈ ns, XfC X.K (Γ.ca n) ∧ PySem.W.findIn X.K (.ref (Γ.ca n)) nm = some none) (hb : attributeBase e nm X.env (eval e X.env) = eval e X.env := by rfl) : PE X (.Attribute e nm pos) (tE Γ cs ts W .full (eXf ns nm f)) :=
  PE.imp (pe_xk he hb) fun σ H Q ⟨G, ρ, rep, fin⟩ => ⟨G, ρ, rep, fin_bind all_sub fin fun v d ρ1 H1 G1 rep1 st1 rm fin1 => by
    cases d with
    | exc n fs =>
      dsimp only at fin1
      split at fin1
      · rename_i hn
        cases q : fs.lookup nm with
        | none => rw [q] at fin1; exact fin1.elim
        | some z =>
          rw [q] at fin1
          obtain ⟨a, b, gs, u, rfl, h1, h2, h3, h4⟩ := root_excF rep1.sub rm q
          exact ⟨a, _, b, gs, u, rfl, h1, h2, (hc n hn).1, (hc n hn).2, h3, (show Fin Γ cs ts W .full σ H G Q (some (.ok z ρ1)) from fin1) u H1 G1 rep1 st1 h4⟩
      · exact fin1.elim
    | _ => exact (show False from fin1).elim⟩
/-! ### exceptions made as values -/
/-- an exception that is made stands in the heap from here on -/
theorem pe_mk {t : L2.St → Hp → XK → Prop} (he : PMk X e t) : PE X e (fun σ H Q => t σ H fun cls d H' => ∀ a, H' a = none → Q (.ref a) (upd H' a (Lk.ExK cls d a))) := by
  refine ⟨fun pins s σ H Q I h => thn (he pins s σ H _ I h) fun u s1 hu => ?_⟩
  obtain ⟨a, oe, vs, sI, H', cls, d, rfl, J, k, hne, ha, hz, hd, _, na, os, ag, _, q⟩ := hu
  have J2 : Inv X pins σ (upd H' a (Lk.ExK cls d a)) s1 := J.call' (ch := []) os (Un.laidN k hne na) (J.hok.laidN k na (Lk.exK_ok ha hz hd)) ag fun b z => absurd z List.not_mem_nil
  exact ⟨.ref a, _, J2, rfl, q a na⟩
def eMk0 (n : String) (f : E) : E := fun ρ => eBind (f ρ) fun _ ρ1 => some (.ok (.exc n []) ρ1)
def eMkX (n : String) (txt fld : Str) (f : E) : E := fun ρ => eBind (f ρ) fun d ρ1 => match oexV d with
  | some y => if (Lk.shownO txt y).isSome = true then some (.ok (.exc n [(fld, d)]) ρ1) else none
  | none => none
theorem me_mk0 {C : Addr} {n : String} (hn : Γ.ca n = C) (he : PMk X e (fun σ H Q => tE Γ cs ts W .full f σ H fun _ H1 => Q (.ref C) none H1)) : PE X e (tE Γ cs ts W .full (eMk0 n f)) :=
  PE.imp (pe_mk he) fun σ H Q ⟨G, ρ, rep, fin⟩ => ⟨G, ρ, rep, fin_bind all_sub fin fun v d ρ1 H1 G1 rep1 st1 rm fin1 a na => by
    have x1 := Ext.new (o := Lk.ExK (.ref C) none a) rep1.sub na
    subst hn
    exact (show Fin Γ cs ts W .full σ H G Q (some (.ok (.exc n []) ρ1)) from fin1) (.ref a) _ _ (rep1.ext x1) (st1.tr x1.any) (.exc upd_same)⟩
theorem me_mkX {x : Str} {C fI : Addr} {n : String} {k : Nat} {fd : FuncData} {ps : List Str} {txt fld : Str} (hn : Γ.ca n = C) (T : OexC X.K C) (iC : PySem.W.findIn X.K (.ref C) "__init__" = some (some (.ref fI))) (tI : PySem.W.typeIn X.K (.ref fI) = some (.type "function"))
    (F1 : FnOk X.prog X.w X.K X.mg X.base (fun _ _ _ _ _ _ => False) k fI fd ps (Lk.spOex C txt fld)) (hr : Room (k + 1) X.A) (hb : Binds X.K fd ps []) (hg : Gl X x) (hm : X.mg x = some (.ref C)) (he : PE X e (tE Γ cs ts W .full f))
    (hdb : (x == ("__debug__" : Str)) = false := by decide) (hs : starEach [e] X.env = (false, eval e X.env) :: starEach [] X.env := by rfl) (hpl : (backTo p (starEach [] X.env)).any (·.1) = false := by rfl) :
    PE X (.Call (.Name x pos) [e] [] p) (tE Γ cs ts W .full (eMkX n txt fld f)) :=
  PE.imp (pe_mk (pmk_oex T iC tI F1 hr hb .nil (fun _ _ _ _ _ _ _ z => z.elim) hg hm (pa_cons he pa_nil hs) hdb hs hpl)) fun σ H Q ⟨G, ρ, rep, fin⟩ => ⟨G, ρ, rep, fin_bind all_sub fin fun v d ρ1 H1 G1 rep1 st1 rm fin1 => by
    show ([v] : List V).length ≤ 1000 ∧ _
    refine ⟨by show 1 ≤ 1000; omega, fun a na => ?_⟩
    cases hy : oexV d with
    | none => rw [hy] at fin1; exact fin1.elim
    | some y =>
      rw [hy] at fin1
      dsimp only at fin1
      by_cases hs : (Lk.shownO txt y).isSome = true
      · rw [if_pos hs] at fin1
        obtain rfl : v = y := oexV_is hy (show Dt Γ G1 v d from rm)
        refine ⟨a, v, rfl, upd_same, hs, fun b nb ne => ⟨rfl, b, [(fld, v)], upd_same, ?_, ?_, fun c nc => ?_⟩⟩
        · rw [upd_ne ne, upd_same]
        · rw [upd_ne ne] at nb; exact nb
        · have nb1 : H1 b = none := by rw [upd_ne ne] at nb; exact nb
          have e1 : upd (del (upd (upd (upd H1 a (exo a C none)) b (exd b [(fld, v)])) a (exo a C (some b))) a) b (.xd [(fld, v)]) = upd H1 b (.xd [(fld, v)]) := by
            funext z
            by_cases z1 : z = b
            · rw [z1, upd_same, upd_same]
            · rw [upd_ne z1, upd_ne z1]
              by_cases z2 : z = a
              · rw [z2, del_same, na]
              · rw [del_ne z2, upd_ne z2, upd_ne z1, upd_ne z2]
          rw [e1] at nc ⊢
          have x1 := Ext.new (o := .xd [(fld, v)]) rep1.sub nb1
          have r2 := rep1.ext x1
          have x2 := Ext.new (o := Lk.ExK (.ref C) (some b) c) r2.sub nc
          subst hn
          exact (show Fin Γ cs ts W .full σ H G Q (some (.ok (.exc n [(fld, d)]) ρ1)) from fin1) (.ref c) _ _ (r2.ext x2) ((st1.tr x1.any).tr x2.any) (.excF upd_same (x2.st.g _ _ upd_same) (by simp) (.cons (oexV_dt hy) .nil))
      · rw [if_neg hs] at fin1; exact fin1.elim⟩
/-! ### a bool in a list of bools -/
def bsD : List D → Option (List Bool)
  | [] => some []
  | .bl b :: ds => (bsD ds).map (b :: ·)
  | _ => none
def inBB : D → D → Option Bool
  | .bl b, .lst ds => (bsD ds).map fun ns => decide (b ∈ ns)
  | _, _ => none
def inBD (a b : D) : Option D := (inBB a b).map .bl
def notinBD (a b : D) : Option D := (inBB a b).map fun c => .bl (!c)
theorem inV_bls (i : Bool) : ∀ ns : List Bool, inV (.bl i) (ns.map V.bl) = decide (i ∈ ns)
  | [] => by simp [inV]
  | n :: ns => by
    have ih := inV_bls i ns
    unfold inV at ih ⊢
    rw [List.map_cons, List.any_cons, ih]
    show (n == i || decide (i ∈ ns)) = decide (i ∈ n :: ns)
    by_cases h : n = i
    · subst h; simp
    · rw [show (n == i) = false from beq_eq_false_iff_ne.mpr h, Bool.false_or]
      refine decide_eq_decide.mpr ?_
      rw [List.mem_cons]
      exact ⟨.inr, fun z => z.resolve_left fun e => h e.symm⟩
theorem bsD_dts {G : Hp} : ∀ {ds : List D} {vs : List V} {ns : List Bool}, Dts Γ G vs ds → bsD ds = some ns → vs = ns.map V.bl
  | [], _, _, h, e => by cases h; cases e; rfl
  | d :: ds, _, _, h, e => by
    cases h with
    | cons h r =>
      cases d with
      | bl s =>
        obtain ⟨ms, e1, rfl⟩ := Option.map_eq_some_iff.mp (show (bsD ds).map (s :: ·) = _ from e)
        cases h
        rw [bsD_dts r e1]
        rfl
      | _ => cases e
theorem inB_cases {H G : Hp} {x y : V} {a b : D} {c : Bool} (s : Same G H) (ha : RM Γ .root H H G x a) (hb : RM Γ .root H H G y b) (e : inBB a b = some c) : ∃ p xs, y = .ref p ∧ (SqL Γ.K H p xs ∨ SqT Γ.K H p xs) ∧ flatV x = true ∧ xs.all flatV = true ∧ inV x xs = c := by
  unfold inBB at e
  split at e
  · obtain ⟨ns, e1, rfl⟩ := Option.map_eq_some_iff.mp e
    cases root_bl ha
    obtain ⟨p, xs, rfl, h1, h2⟩ := root_lst s hb
    have e4 := bsD_dts h2 e1
    subst e4
    exact ⟨p, _, rfl, .inl (SqL.of h1), rfl, by rw [List.all_map]; exact List.all_eq_true.mpr fun _ _ => rfl, inV_bls _ _⟩
  · cases e
theorem so_notinB : So2 Γ .full (rIn Γ.K true) notinBD := fun H G x y a b z Q s ha hb e q => by
  obtain ⟨c, e1, rfl⟩ := Option.map_eq_some_iff.mp e
  obtain ⟨p, xs, rfl, h1, h2, h3, rfl⟩ := inB_cases s ha hb e1
  exact ⟨p, xs, rfl, h1, h2, h3, q _ H G (Ext.refl s) (.bl _)⟩
/-! ### the script and a list -/
def rCatS (K : PySem.W.Frag) : R2 := fun x y H Q => ∃ l b xs zs, x = .ref l ∧ y = .ref b ∧ SqL K H l xs ∧ SqL K H b zs ∧ xs.length + zs.length ≤ sizeLine ∧ ∀ p, H p = none → Q (.ref p) (upd H p (.lst (xs ++ zs)))
theorem op_catS {K : PySem.W.Frag} (hK : X.K = K := by rfl) : OpR X (binaryOp .Add) (rCatS K) := by
  subst hK
  intro pins s σ H x y v u Q I rx ry h
  obtain ⟨l, b, xs, zs, rfl, rfl, h1, h2, hz, q⟩ := h
  cases rx
  cases ry
  obtain ⟨its, r, ⟨⟨c1, d1, dt1, sl1⟩, n1, e1, f1, g1, k1⟩, _⟩ := I.list h1
  obtain ⟨its2, r2, ⟨⟨c2, d2, dt2, sl2⟩, n2, e2, f2, g2, k2⟩, _⟩ := I.list h2
  simp only at f1 g1 k1 f2 g2 k2
  subst f1 g1 k1 f2 g2 k2
  have l1 := r.length
  have l2 := r2.length
  have ea : its.toArray ++ its2.toArray = (its ++ its2).toArray := by simp
  refine concat_meets ⟨_, e1, rfl⟩ ⟨_, e2, rfl⟩ PySem.noFill_list_add PySem.seq_list_add PySem.F.slot_list_add PySem.F.entry_list_add (PySem.F.args_list_add_2 _ _) (list_addW l b its.toArray its2.toArray n1 n2 none none sl1 sl2 (by rw [List.size_toArray, List.size_toArray]; omega)) ⟨e1, e2, ?_⟩
  rw [ea]
  exact ⟨.ref _, _, I.lnew (t' := s.toks) (r.append r2) (by rw [List.length_append]; omega), rfl, q _ I.fresh⟩
def addSD : D → D → Option D
  | .slst a, .lst b => if a.length + b.length ≤ sizeLine then some (.lst (a.map .int ++ b)) else none
  | _, _ => none
theorem ints_dts {G : Hp} : ∀ ns : List Int, Dts Γ G (ns.map V.int) (ns.map D.int)
  | [] => .nil
  | n :: ns => .cons (.int n) (ints_dts ns)
theorem root_slst {ns : List Int} {v : V} {H0 : Hp} (s : Same G H) (h : RM Γ .root H0 H G v (.slst ns)) : ∃ a, v = .ref a ∧ SqL Γ.K H a (ns.map V.int) := by
  rcases h with h | ⟨a, o, rfl, q, h⟩
  · cases h with
    | slst h => exact ⟨_, rfl, s.seq h⟩
  · cases h
theorem so_addS : So2 Γ .full (rCatS Γ.K) addSD := fun H G x y a b z Q s ha hb e q => by
  unfold addSD at e
  split at e
  · rename_i a b
    split at e
    · rename_i hc
      cases e
      obtain ⟨p, rfl, h1⟩ := root_slst s ha
      obtain ⟨p2, vs2, rfl, h3, h4⟩ := root_lst s hb
      refine ⟨p, p2, _, vs2, rfl, rfl, h1, SqL.of h3, by rw [List.length_map, h4.len]; exact hc, fun t nt => ?_⟩
      have ex : Ext H G (upd H t (.lst (a.map V.int ++ vs2))) (upd G t (.lst (a.map V.int ++ vs2))) := Ext.new s nt
      exact q _ _ _ ex (Dt.lst upd_same (((ints_dts a).app h4).same ex.st.g))
    · cases e
  · cases e
end
end Mi

namespace Mi
open PySem PySem.Spec L2 Lk
/-! ### running the mirror: what is left of the run is a proposition -/
abbrev PE1 := D → Env → Prop
/-- what simp leaves alone -/
class Still {α : Sort u} (a : α) : Type where
instance {α : Sort u} {a : α} : Still a := ⟨⟩
@[irreducible] def OkE (r : Option R) (Q X : PE1) [Still Q] [Still X] : Prop := match r with
  | none => False
  | some (.ok d ρ) => Q d ρ
  | some (.ex x ρ) => X x ρ
@[irreducible] def OkA (r : Option RA) (Q : List D → Env → Prop) (X : PE1) [Still Q] [Still X] : Prop := match r with
  | none => False
  | some (.ok d ρ) => Q d ρ
  | some (.ex x ρ) => X x ρ
@[irreducible] def OkF (r : Option RF) (Q X : D → List D → Prop) [Still Q] [Still X] : Prop := match r with
  | none => False
  | some (.ok d ρ) => Q d ρ
  | some (.ex x ρ) => X x ρ
@[irreducible] def OkS (r : Option Out) (Q : Out → Prop) [Still Q] : Prop := match r with
  | none => False
  | some o => Q o
@[irreducible] def OkD (r : Option D) (Q : D → Prop) [Still Q] : Prop := match r with
  | none => False
  | some o => Q o
@[irreducible] def OkN (r : Option Env) (Q : Env → Prop) [Still Q] : Prop := match r with
  | none => False
  | some o => Q o
@[irreducible] def OkL (r : Option (List D)) (Q : List D → Prop) [Still Q] : Prop := match r with
  | none => False
  | some o => Q o
@[irreducible] def OkG (r : Option (Option D)) (Q : D → Prop) [Still Q] : Prop := match r with
  | some (some o) => Q o
  | _ => False
variable {Q X : PE1} {QA : List D → Env → Prop} {QF XF : D → List D → Prop} {QS : Out → Prop} {QD : D → Prop} {QN : Env → Prop} {QL : List D → Prop} {ρ : Env} {f g h k : E} {a b : EA} {F K : SM} {d : D} {ds : List D} {i j : Nat} {c : Bool} {P P' : Prop}
theorem okE_ext {r : Option R} {Q Q' X : PE1} (h : ∀ d ρ, Q d ρ = Q' d ρ) : OkE r Q X = OkE r Q' X := by
  have e : Q = Q' := funext fun d => funext fun ρ => h d ρ
  subst e
  rfl
theorem okA_ext {r : Option RA} {Q Q' : List D → Env → Prop} {X : PE1} (h : ∀ d ρ, Q d ρ = Q' d ρ) : OkA r Q X = OkA r Q' X := by
  have e : Q = Q' := funext fun d => funext fun ρ => h d ρ
  subst e
  rfl
theorem okE_ok : OkE (some (.ok d ρ)) Q X = Q d ρ := by with_unfolding_all rfl
theorem okE_ex : OkE (some (.ex d ρ)) Q X = X d ρ := by with_unfolding_all rfl
theorem okA_ok : OkA (some (.ok ds ρ)) QA X = QA ds ρ := by with_unfolding_all rfl
theorem okA_ex : OkA (some (.ex d ρ)) QA X = X d ρ := by with_unfolding_all rfl
theorem okS_some {o : Out} : OkS (some o) QS = QS o := by with_unfolding_all rfl
theorem okD_some : OkD (some d) QD = QD d := by with_unfolding_all rfl
theorem okN_some : OkN (some ρ) QN = QN ρ := by with_unfolding_all rfl
theorem okL_some : OkL (some ds) QL = QL ds := by with_unfolding_all rfl
theorem okG_some : OkG (some (some d)) QD = QD d := by with_unfolding_all rfl
theorem okE_bind {r : Option R} {k : D → Env → Option R} : OkE (eBind r k) Q X = OkE r (fun d ρ => OkE (k d ρ) Q X) X := by
  rcases r with _ | ⟨d1, ρ1⟩ | ⟨x, ρ1⟩ <;> with_unfolding_all rfl
theorem okE_aBind {r : Option RA} {k : List D → Env → Option R} : OkE (aBind r k) Q X = OkA r (fun d ρ => OkE (k d ρ) Q X) X := by
  rcases r with _ | ⟨d1, ρ1⟩ | ⟨x, ρ1⟩ <;> with_unfolding_all rfl
theorem okS_bind {r : Option R} {k : D → Env → Option Out} : OkS (sBind r k) QS = OkE r (fun d ρ => OkS (k d ρ) QS) fun x ρ => QS (.ex x ρ) := by
  rcases r with _ | ⟨d1, ρ1⟩ | ⟨x, ρ1⟩ <;> with_unfolding_all rfl
theorem okS_aBind {r : Option RA} {k : List D → Env → Option Out} : OkS (saBind r k) QS = OkA r (fun d ρ => OkS (k d ρ) QS) fun x ρ => QS (.ex x ρ) := by
  rcases r with _ | ⟨d1, ρ1⟩ | ⟨x, ρ1⟩ <;> with_unfolding_all rfl
theorem okE_lift {r : Option D} : OkE (lift r ρ) Q X = OkD r fun d => Q d ρ := by cases r <;> with_unfolding_all rfl
theorem okE_V : OkE (eV i ρ) Q X = OkG ρ[i]? fun d => Q d ρ := by
  unfold eV
  rcases ρ[i]? with _ | _ | d <;> with_unfolding_all rfl
theorem okE_C : OkE (eC d ρ) Q X = Q d ρ := by with_unfolding_all rfl
theorem okE_1 {op : D → Option D} : OkE (e1 op f ρ) Q X = OkE (f ρ) (fun x ρ1 => OkD (op x) fun d => Q d ρ1) X := by
  unfold e1; rw [okE_bind]; refine okE_ext fun _ _ => ?_; rw [okE_lift]
theorem okE_2 {op : D → D → Option D} : OkE (e2 op f g ρ) Q X = OkE (f ρ) (fun x ρ1 => OkE (g ρ1) (fun y ρ2 => OkD (op x y) fun d => Q d ρ2) X) X := by
  unfold e2; rw [okE_bind]; refine okE_ext fun _ _ => ?_; rw [okE_bind]; refine okE_ext fun _ _ => ?_; rw [okE_lift]
theorem okA_nil : OkA (aNil ρ) QA X = QA [] ρ := by with_unfolding_all rfl
theorem okA_cons : OkA (aCons f a ρ) QA X = OkE (f ρ) (fun d ρ1 => OkA (a ρ1) (fun ds ρ2 => QA (d :: ds) ρ2) X) X := by
  unfold aCons
  rcases f ρ with _ | ⟨d1, ρ1⟩ | ⟨x, ρ1⟩
  · with_unfolding_all rfl
  · rw [okE_ok]; show OkA (match a ρ1 with
      | some (.ok ds ρ2) => some (.ok (d1 :: ds) ρ2)
      | r => r) QA X = OkA (a ρ1) (fun ds ρ2 => QA (d1 :: ds) ρ2) X
    rcases a ρ1 with _ | ⟨d2, ρ2⟩ | ⟨x, ρ2⟩ <;> with_unfolding_all rfl
  · with_unfolding_all rfl
theorem okE_B {op : List D → Option D} : OkE (eB op a ρ) Q X = OkA (a ρ) (fun ds ρ1 => OkD (op ds) fun d => Q d ρ1) X := by
  unfold eB; rw [okE_aBind]; refine okA_ext fun _ _ => ?_; rw [okE_lift]
theorem okE_Tup : OkE (eTup a ρ) Q X = OkA (a ρ) (fun ds ρ1 => Q (.tup ds) ρ1) X := by
  unfold eTup; rw [okE_aBind]; refine okA_ext fun _ _ => ?_; rw [okE_ok]
theorem okE_Lst : OkE (eLst a ρ) Q X = OkA (a ρ) (fun ds ρ1 => Q (.lst ds) ρ1) X := by
  unfold eLst; rw [okE_aBind]; refine okA_ext fun _ _ => ?_; rw [okE_ok]
/-- what goes on after a test -/
def tE2 (d : D) (P P' : Prop) [Still P] [Still P'] : Prop := match d with
  | .bl true => P
  | .bl false => P'
  | _ => False
theorem tE2_bl : tE2 (.bl c) P P' = if c = true then P else P' := by cases c <;> simp [tE2]
theorem okE_If : OkE (eIf f g h ρ) Q X = OkE (f ρ) (fun d ρ1 => tE2 d (OkE (g ρ1) Q X) (OkE (h ρ1) Q X)) X := by
  unfold eIf; rw [okE_bind]
  first | refine okE_ext fun d ρ1 => ?_ | refine okA_ext fun d ρ1 => ?_
  rcases d with _ | (_ | _) | _ | _ | _ | _ | _ | _ | _ | _ | _ | _ | _ <;> with_unfolding_all rfl
theorem okE_And : OkE (eAnd f g ρ) Q X = OkE (f ρ) (fun d ρ1 => tE2 d (OkE (g ρ1) Q X) (Q (.bl false) ρ1)) X := by
  unfold eAnd; rw [okE_bind]
  first | refine okE_ext fun d ρ1 => ?_ | refine okA_ext fun d ρ1 => ?_
  rcases d with _ | (_ | _) | _ | _ | _ | _ | _ | _ | _ | _ | _ | _ | _ <;> with_unfolding_all rfl
theorem okE_Or : OkE (eOr f g ρ) Q X = OkE (f ρ) (fun d ρ1 => tE2 d (Q (.bl true) ρ1) (OkE (g ρ1) Q X)) X := by
  unfold eOr; rw [okE_bind]
  first | refine okE_ext fun d ρ1 => ?_ | refine okA_ext fun d ρ1 => ?_
  rcases d with _ | (_ | _) | _ | _ | _ | _ | _ | _ | _ | _ | _ | _ | _ <;> with_unfolding_all rfl
def nE (d : D) (QD : D → Prop) [Still QD] : Prop := match d with
  | .bl c => QD (.bl !c)
  | _ => False
theorem nE_bl : nE (.bl c) QD = QD (.bl !c) := by with_unfolding_all rfl
theorem okE_Not : OkE (eNot f ρ) Q X = OkE (f ρ) (fun d ρ1 => nE d fun d => Q d ρ1) X := by
  unfold eNot; rw [okE_bind]
  first | refine okE_ext fun d ρ1 => ?_ | refine okA_ext fun d ρ1 => ?_
  rcases d with _ | (_ | _) | _ | _ | _ | _ | _ | _ | _ | _ | _ | _ | _ <;> with_unfolding_all rfl
def OkB (r : Option Bool) (Q : Bool → Prop) [Still Q] : Prop := match r with
  | none => False
  | some o => Q o
theorem okB_some {P : Bool → Prop} : OkB (some c) P = P c := by with_unfolding_all rfl
theorem okE_Tru : OkE (eTru f ρ) Q X = OkE (f ρ) (fun d ρ1 => OkB (truD d) fun c => Q (.bl c) ρ1) X := by
  unfold eTru; rw [okE_bind]
  first | refine okE_ext fun d ρ1 => ?_ | refine okA_ext fun d ρ1 => ?_
  cases truD d <;> with_unfolding_all rfl
def cE (d : Option D) (P P' : Prop) [Still P] [Still P'] : Prop := match d with
  | some (.bl true) => P
  | some (.bl false) => P'
  | _ => False
theorem cE_bl : cE (some (.bl c)) P P' = if c = true then P else P' := by cases c <;> simp [cE]
theorem okE_Chain {op op' : D → D → Option D} : OkE (eChain op op' f g h ρ) Q X = OkE (f ρ) (fun a ρ1 => OkE (g ρ1) (fun b ρ2 => cE (op a b) (OkE (h ρ2) (fun c ρ3 => OkD (op' b c) fun d => Q d ρ3) X) (Q (.bl false) ρ2)) X) X := by
  unfold eChain; rw [okE_bind]
  first | refine okE_ext fun d ρ1 => ?_ | refine okA_ext fun d ρ1 => ?_
  rw [okE_bind]
  first | refine okE_ext fun d2 ρ2 => ?_ | refine okA_ext fun d2 ρ2 => ?_
  rcases op d d2 with _ | (_ | (_ | _) | _ | _ | _ | _ | _ | _ | _ | _ | _ | _ | _) <;> first | with_unfolding_all rfl | (unfold cE; rw [okE_bind]; refine okE_ext fun _ _ => ?_; rw [okE_lift])
theorem okE_Chain3 {op op' op'' : D → D → Option D} : OkE (eChain3 op op' op'' f g h k ρ) Q X = OkE (f ρ) (fun a ρ1 => OkE (g ρ1) (fun b ρ2 => cE (op a b) (OkE (h ρ2) (fun c ρ3 => cE (op' b c) (OkE (k ρ3) (fun d ρ4 => OkD (op'' c d) fun d => Q d ρ4) X) (Q (.bl false) ρ3)) X) (Q (.bl false) ρ2)) X) X := by
  unfold eChain3; rw [okE_bind]
  first | refine okE_ext fun d ρ1 => ?_ | refine okA_ext fun d ρ1 => ?_
  rw [okE_bind]
  first | refine okE_ext fun d2 ρ2 => ?_ | refine okA_ext fun d2 ρ2 => ?_
  rcases op d d2 with _ | (_ | (_ | _) | _ | _ | _ | _ | _ | _ | _ | _ | _ | _ | _) <;> first | with_unfolding_all rfl | skip
  simp only [cE]
  rw [okE_bind]
  first | refine okE_ext fun d3 ρ3 => ?_ | refine okA_ext fun d3 ρ3 => ?_
  rcases op' d2 d3 with _ | (_ | (_ | _) | _ | _ | _ | _ | _ | _ | _ | _ | _ | _ | _) <;> first | with_unfolding_all rfl | ((show OkE (eBind (k ρ3) fun d ρ4 => lift (op'' d3 d) ρ4) Q X = OkE (k ρ3) (fun d ρ4 => OkD (op'' d3 d) fun d => Q d ρ4) X); rw [okE_bind]; refine okE_ext fun _ _ => ?_; rw [okE_lift])
/-! calls -/
theorem okE_callR {ks : List Kd} {r : Option RF} : OkE (callR ks r ρ) Q X = OkF r (fun d ds => Q d (putC ks ds ρ)) fun x ds => X x (putC ks ds ρ) := by
  rcases r with _ | ⟨d, ds⟩ | ⟨x, ds⟩ <;> with_unfolding_all rfl
theorem okE_Call {Fn : FnD} {ks : List Kd} : OkE (eCall Fn ks a ρ) Q X = OkA (a ρ) (fun ds ρ1 => OkF (Fn (argD ks ds ρ1)) (fun d ds => Q d (putC ks ds ρ1)) fun x ds => X x (putC ks ds ρ1)) X := by
  unfold eCall; rw [okE_aBind]; refine okA_ext fun _ _ => ?_; rw [okE_callR]
def OkI (d : D) (n : String) (P : List (Str × D) → Prop) [Still n] [Still P] : Prop := match d with
  | .ins n' fs => n' = n ∧ P fs
  | _ => False
theorem okI_ins {n n' : String} {fs : List (Str × D)} {P : List (Str × D) → Prop} : OkI (.ins n' fs) n P = (n' = n ∧ P fs) := by with_unfolding_all rfl
theorem okE_Prop {n : String} {Fn : FnD} : OkE (eProp n Fn f ρ) Q X = OkE (f ρ) (fun d ρ1 => OkI d n fun _ => OkF (Fn [d]) (fun d ds => Q d (putC [.full] ds ρ1)) fun x ds => X x (putC [.full] ds ρ1)) X := by
  unfold eProp; rw [okE_bind]
  first | refine okE_ext fun d ρ1 => ?_ | refine okA_ext fun d ρ1 => ?_
  cases d <;> try with_unfolding_all rfl
  rename_i n' fs
  simp only [okI_ins]
  by_cases e : n' = n
  · rw [if_pos e, okE_callR]; simp only [e, true_and]
  · rw [if_neg e]; simp only [e, false_and]; with_unfolding_all rfl
theorem okE_Meth {n : String} {nm : Str} {Fn : FnD} {ks : List Kd} : OkE (eMeth n nm Fn ks f a ρ) Q X = OkE (f ρ) (fun d ρ1 => OkI d n fun fs => fs.lookup nm = none ∧ OkA (a ρ1) (fun ds ρ2 => OkF (Fn (argD (.full :: ks) (d :: ds) ρ2)) (fun d ds => Q d (putC (.full :: ks) ds ρ2)) fun x ds => X x (putC (.full :: ks) ds ρ2)) X) X := by
  unfold eMeth; rw [okE_bind]
  first | refine okE_ext fun d ρ1 => ?_ | refine okA_ext fun d ρ1 => ?_
  cases d <;> try with_unfolding_all rfl
  rename_i n' fs
  simp only [okI_ins]
  by_cases e : n' = n ∧ fs.lookup nm = none
  · rw [if_pos e, okE_aBind]; simp only [e, true_and]; refine okA_ext fun _ _ => ?_; rw [okE_callR]
  · rw [if_neg e, ← and_assoc]; simp only [e, false_and]; with_unfolding_all rfl
@[irreducible] def OkM (r : Option RF) (QD : D → Prop) (X : D → Prop) [Still QD] [Still X] : Prop := match r with
  | some (.ok .non (d :: _)) => QD d
  | some (.ex x _) => X x
  | _ => False
theorem okE_Make {n : String} {Fn : FnD} : OkE (eMake n Fn a ρ) Q X = OkA (a ρ) (fun ds ρ1 => OkM (Fn (.ins n [] :: ds)) (fun d => Q d ρ1) fun x => X x ρ1) X := by
  unfold eMake; rw [okE_aBind]
  first | refine okE_ext fun ds ρ1 => ?_ | refine okA_ext fun ds ρ1 => ?_
  rcases Fn (.ins n [] :: ds) with _ | ⟨d, _ | ⟨d1, ds'⟩⟩ | ⟨x, ds⟩ <;> first | with_unfolding_all rfl | (cases d <;> with_unfolding_all rfl)
def OkFs (d : D) (ns : List String) (nm : Str) (QD : D → Prop) [Still ns] [Still nm] [Still QD] : Prop := match d with
  | .ins n fs => n ∈ ns ∧ OkD (fs.lookup nm) QD
  | _ => False
theorem okFs_ins {n : String} {ns : List String} {nm : Str} {fs : List (Str × D)} : OkFs (.ins n fs) ns nm QD = (n ∈ ns ∧ OkD (fs.lookup nm) QD) := by with_unfolding_all rfl
theorem okE_Fld {ns : List String} {nm : Str} : OkE (eFld ns nm f ρ) Q X = OkE (f ρ) (fun d ρ1 => OkFs d ns nm fun d => Q d ρ1) X := by
  unfold eFld; rw [okE_bind]
  first | refine okE_ext fun d ρ1 => ?_ | refine okA_ext fun d ρ1 => ?_
  cases d <;> try with_unfolding_all rfl
  rename_i n fs
  simp only [okFs_ins]
  by_cases e : n ∈ ns
  · rw [if_pos e, okE_lift]; simp only [e, true_and]
  · rw [if_neg e]; simp only [e, false_and]; with_unfolding_all rfl
def OkT (d : D) (P : Prop) [Still P] : Prop := match d with
  | .str _ => P
  | _ => False
theorem okT_str {z : Str} : OkT (.str z) P = P := by with_unfolding_all rfl
theorem okE_Txt {op : D → List D → Option D} : OkE (eTxt op f a ρ) Q X = OkE (f ρ) (fun d ρ1 => OkT d (OkA (a ρ1) (fun ds ρ2 => OkD (op d ds) fun d => Q d ρ2) X)) X := by
  unfold eTxt; rw [okE_bind]
  first | refine okE_ext fun d ρ1 => ?_ | refine okA_ext fun d ρ1 => ?_
  cases d <;> first | with_unfolding_all rfl | (simp only [okT_str, okE_aBind]; refine okA_ext fun _ _ => ?_; rw [okE_lift])
theorem okE_Cel : OkE (eCel i ρ) Q X = OkG ρ[i]? fun _ => Q .non ρ := by
  unfold eCel
  rcases ρ[i]? with _ | _ | d <;> with_unfolding_all rfl
def OkRS (d : D) (QD : D → Prop) [Still QD] : Prop := match d with
  | .str z => z.length ≤ sizeLine ∧ QD (.str ⟨z.cps.reverse⟩)
  | _ => False
theorem okRS_str {z : Str} : OkRS (.str z) QD = (z.length ≤ sizeLine ∧ QD (.str ⟨z.cps.reverse⟩)) := by with_unfolding_all rfl
theorem okE_RevS : OkE (eRevS f ρ) Q X = OkE (f ρ) (fun d ρ1 => OkRS d fun d => Q d ρ1) X := by
  unfold eRevS; rw [okE_bind]
  first | refine okE_ext fun d ρ1 => ?_ | refine okA_ext fun d ρ1 => ?_
  cases d <;> try with_unfolding_all rfl
  rename_i z
  simp only [okRS_str]
  split
  · rename_i e; simp only [e, true_and]; with_unfolding_all rfl
  · rename_i e; simp only [e, false_and]; with_unfolding_all rfl
def OkSl (d l h : D) (op : D → Option Int → Option Int → Option D) (QD : D → Prop) [Still op] [Still QD] : Prop := match bdI l, bdI h with
  | some i, some j => OkD (op d i j) QD
  | _, _ => False
theorem okSl_nn {op : D → Option Int → Option Int → Option D} : OkSl d .non .non op QD = OkD (op d none none) QD := by with_unfolding_all rfl
theorem okSl_in {op : D → Option Int → Option Int → Option D} {i : Int} : OkSl d (.int i) .non op QD = OkD (op d (some i) none) QD := by with_unfolding_all rfl
theorem okSl_ni {op : D → Option Int → Option Int → Option D} {i : Int} : OkSl d .non (.int i) op QD = OkD (op d none (some i)) QD := by with_unfolding_all rfl
theorem okSl_ii {op : D → Option Int → Option Int → Option D} {i j : Int} : OkSl d (.int i) (.int j) op QD = OkD (op d (some i) (some j)) QD := by with_unfolding_all rfl
theorem okE_Sl {op : D → Option Int → Option Int → Option D} : OkE (eSl op f g h ρ) Q X = OkE (f ρ) (fun d ρ1 => OkE (g ρ1) (fun l ρ2 => OkE (h ρ2) (fun r ρ3 => OkSl d l r op fun d => Q d ρ3) X) X) X := by
  unfold eSl; rw [okE_bind]
  first | refine okE_ext fun d ρ1 => ?_ | refine okA_ext fun d ρ1 => ?_
  rw [okE_bind]
  first | refine okE_ext fun l ρ2 => ?_ | refine okA_ext fun l ρ2 => ?_
  rw [okE_bind]
  first | refine okE_ext fun r ρ3 => ?_ | refine okA_ext fun r ρ3 => ?_
  unfold OkSl
  cases bdI l <;> cases bdI r <;> first | with_unfolding_all rfl | (simp only [okE_lift])
theorem okE_No : OkE (eNo ρ) Q X = Q .non ρ := by with_unfolding_all rfl
def OkBd (d : D) (QD : D → Prop) [Still QD] : Prop := match d with
  | .int i => QD (.int i)
  | _ => False
theorem okBd_int {i : Int} : OkBd (.int i) QD = QD (.int i) := by with_unfolding_all rfl
theorem okE_Bd : OkE (eBd f ρ) Q X = OkE (f ρ) (fun d ρ1 => OkBd d fun d => Q d ρ1) X := by
  unfold eBd; rw [okE_bind]
  first | refine okE_ext fun d ρ1 => ?_ | refine okA_ext fun d ρ1 => ?_
  cases d <;> with_unfolding_all rfl
theorem okE_RevL : OkE (eRevL f ρ) Q X = OkE (f ρ) (fun d ρ1 => OkL (listD d) fun ds => Q (.lst ds.reverse) ρ1) X := by
  unfold eRevL; rw [okE_bind]
  refine okE_ext fun d ρ1 => ?_
  cases listD d <;> with_unfolding_all rfl
def tupRev : D → Option D
  | .tup ds => some (.tup ds.reverse)
  | _ => none
theorem tupRev_tup {ds : List D} : tupRev (.tup ds) = some (.tup ds.reverse) := by with_unfolding_all rfl
theorem rev_two {α : Type} {a b : α} : [a, b].reverse = [b, a] := rfl
theorem okE_RevT : OkE (eRevT f ρ) Q X = OkE (f ρ) (fun d ρ1 => OkD (tupRev d) fun d' => Q d' ρ1) X := by
  unfold eRevT; rw [okE_bind]
  refine okE_ext fun d ρ1 => ?_
  cases d <;> with_unfolding_all rfl
/-! items -/
theorem okE_iL : OkE (iL f ρ) Q X = OkE (f ρ) (fun d ρ1 => OkL (listD d) fun ds => Q (.lst ds) ρ1) X := by
  unfold iL; rw [okE_bind]
  first | refine okE_ext fun d ρ1 => ?_ | refine okA_ext fun d ρ1 => ?_
  cases listD d <;> with_unfolding_all rfl
def tupD : D → Option (List D)
  | .tup ds => some ds
  | _ => none
theorem okE_iT : OkE (iT f ρ) Q X = OkE (f ρ) (fun d ρ1 => OkL (tupD d) fun ds => Q (.lst ds) ρ1) X := by
  unfold iT; rw [okE_bind]
  first | refine okE_ext fun d ρ1 => ?_ | refine okA_ext fun d ρ1 => ?_
  cases d <;> with_unfolding_all rfl
def strD : D → Option (List D)
  | .str z => some (chrL z)
  | _ => none
theorem okE_iS : OkE (iS f ρ) Q X = OkE (f ρ) (fun d ρ1 => OkL (strD d) fun ds => Q (.lst ds) ρ1) X := by
  unfold iS; rw [okE_bind]
  first | refine okE_ext fun d ρ1 => ?_ | refine okA_ext fun d ρ1 => ?_
  cases d <;> with_unfolding_all rfl
theorem okE_iA {k : List D → Option (List D)} : OkE (iA k a ρ) Q X = OkA (a ρ) (fun ds ρ1 => OkL (k ds) fun ds => Q (.lst ds) ρ1) X := by
  unfold iA; rw [okE_aBind]
  first | refine okE_ext fun ds ρ1 => ?_ | refine okA_ext fun ds ρ1 => ?_
  cases k ds <;> with_unfolding_all rfl
def OkC (d : D) (P : List D → Prop) [Still P] : Prop := match d with
  | .lst ds => P ds
  | _ => False
theorem okC_lst {P : List D → Prop} : OkC (.lst ds) P = P ds := by with_unfolding_all rfl
theorem okE_Comp {vs : List Nat} {t : Tg} {cc : Option E} : OkE (eComp vs t cc f g ρ) Q X = OkE (g ρ) (fun d ρ1 => OkC d fun is => OkE (compF vs t cc f is [] ρ1) Q X) X := by
  unfold eComp; rw [okE_bind]
  first | refine okE_ext fun d ρ1 => ?_ | refine okA_ext fun d ρ1 => ?_
  cases d <;> with_unfolding_all rfl
def OkMu (r : Option (D × List D)) (P : D → List D → Prop) [Still P] : Prop := match r with
  | some (z, l) => P z l
  | none => False
theorem okMu_some {P : D → List D → Prop} {z : D} : OkMu (some (z, ds)) P = P z ds := by with_unfolding_all rfl
theorem okE_Mut {op : List D → List D → Option (D × List D)} : OkE (eMut i op a ρ) Q X = OkG ρ[i]? fun d => OkC d fun _ => OkA (a ρ) (fun ds ρ1 => OkG ρ1[i]? fun d => OkC d fun l => OkMu (op l ds) fun z l' => Q z (ρ1.set i (some (.lst l')))) X := by
  unfold eMut
  rcases ρ[i]? with _ | _ | d
  · with_unfolding_all rfl
  · with_unfolding_all rfl
  · cases d <;> try with_unfolding_all rfl
    simp only [okG_some, okC_lst]
    rw [okE_aBind]
    first | refine okE_ext fun ds ρ1 => ?_ | refine okA_ext fun ds ρ1 => ?_
    rcases ρ1[i]? with _ | _ | d1
    · with_unfolding_all rfl
    · with_unfolding_all rfl
    · cases d1 <;> try with_unfolding_all rfl
      simp only [okG_some, okC_lst]
      rename_i l
      rcases op l ds with _ | ⟨z, l'⟩ <;> with_unfolding_all rfl
/-! statements -/
def seqK (K : SM) (QS : Out → Prop) [Still K] [Still QS] : Out → Prop
  | .nx ρ => OkS (K ρ) QS
  | o => QS o
theorem seqK_nx : seqK K QS (.nx ρ) = OkS (K ρ) QS := by with_unfolding_all rfl
theorem seqK_rt : seqK K QS (.rt d ρ) = QS (.rt d ρ) := by with_unfolding_all rfl
theorem seqK_ex : seqK K QS (.ex d ρ) = QS (.ex d ρ) := by with_unfolding_all rfl
theorem seqK_bk : seqK K QS (.bk ρ) = QS (.bk ρ) := by with_unfolding_all rfl
theorem seqK_ct : seqK K QS (.ct ρ) = QS (.ct ρ) := by with_unfolding_all rfl
theorem okS_Seq : OkS (sSeq F K ρ) QS = OkS (F ρ) (seqK K QS) := by
  unfold sSeq
  rcases F ρ with _ | (_ | _ | _ | _ | _) <;> with_unfolding_all rfl
theorem okS_Dead : OkS (sDead ρ) QS = False := by with_unfolding_all rfl
theorem okS_Next : OkS (sNext ρ) QS = QS (.nx ρ) := by with_unfolding_all rfl
theorem okS_Brk : OkS (sBrk ρ) QS = QS (.bk ρ) := by with_unfolding_all rfl
theorem okS_Ct : OkS (sCt ρ) QS = QS (.ct ρ) := by with_unfolding_all rfl
theorem okS_RetN : OkS (sRetN ρ) QS = QS (.rt .non ρ) := by with_unfolding_all rfl
theorem okS_Raise {n : String} : OkS (sRaise n ρ) QS = QS (.ex (.exc n []) ρ) := by with_unfolding_all rfl
theorem okS_Ret : OkS (sRet f ρ) QS = OkE (f ρ) (fun d ρ1 => QS (.rt d ρ1)) fun x ρ => QS (.ex x ρ) := by
  unfold sRet; rw [okS_bind]; refine okE_ext fun _ _ => ?_; rw [okS_some]
theorem okS_Expr : OkS (sExpr f ρ) QS = OkE (f ρ) (fun _ ρ1 => QS (.nx ρ1)) fun x ρ => QS (.ex x ρ) := by
  unfold sExpr; rw [okS_bind]; refine okE_ext fun _ _ => ?_; rw [okS_some]
theorem okS_Set : OkS (sSet i f ρ) QS = OkE (f ρ) (fun d ρ1 => QS (.nx (ρ1.set i (some d)))) fun x ρ => QS (.ex x ρ) := by
  unfold sSet; rw [okS_bind]; refine okE_ext fun _ _ => ?_; rw [okS_some]
theorem okS_Par {is : List Nat} : OkS (sPar is a ρ) QS = OkA (a ρ) (fun ds ρ1 => QS (.nx (stD is ds ρ1))) fun x ρ => QS (.ex x ρ) := by
  unfold sPar; rw [okS_aBind]; refine okA_ext fun _ _ => ?_; rw [okS_some]
theorem okS_Aug {op : D → D → Option D} : OkS (sAug i op f ρ) QS = OkG ρ[i]? fun x => OkE (f ρ) (fun y ρ2 => OkD (op x y) fun d => QS (.nx (ρ2.set i (some d)))) fun x ρ => QS (.ex x ρ) := by
  unfold sAug; rw [okS_bind, okE_bind, okE_V]
  have e : ∀ {r : Option (Option D)} {A B : D → Prop}, (∀ d, A d = B d) → OkG r A = OkG r B := fun {r A B} h => by rw [funext h]
  refine e fun _ => ?_
  rw [okE_bind]; refine okE_ext fun _ _ => ?_; rw [okE_lift]
  have e : ∀ {r : Option D} {A B : D → Prop}, (∀ d, A d = B d) → OkD r A = OkD r B := fun {r A B} h => by rw [funext h]
  refine e fun _ => ?_; rw [okS_some]
theorem okS_Asg {t : Tg} : OkS (sAsg t f ρ) QS = OkE (f ρ) (fun d ρ1 => OkN (tgtD t d ρ1) fun ρ2 => QS (.nx ρ2)) fun x ρ => QS (.ex x ρ) := by
  unfold sAsg; rw [okS_bind]
  first | refine okE_ext fun d ρ1 => ?_ | refine okA_ext fun d ρ1 => ?_
  cases tgtD t d ρ1 <;> with_unfolding_all rfl
theorem okS_If : OkS (sIf f F K ρ) QS = OkE (f ρ) (fun d ρ1 => tE2 d (OkS (F ρ1) QS) (OkS (K ρ1) QS)) fun x ρ => QS (.ex x ρ) := by
  unfold sIf; rw [okS_bind]
  first | refine okE_ext fun d ρ1 => ?_ | refine okA_ext fun d ρ1 => ?_
  rcases d with _ | (_ | _) | _ | _ | _ | _ | _ | _ | _ | _ | _ | _ | _ <;> with_unfolding_all rfl
def OkX (o : Option Nat) (P : Nat → Prop) [Still P] : Prop := match o with
  | some j => P j
  | none => False
theorem okX_some {P : Nat → Prop} : OkX (some i) P = P i := by with_unfolding_all rfl
def OkZ (d : D) (P : Int → Prop) [Still P] : Prop := match d with
  | .int j => P j
  | _ => False
theorem okZ_int {P : Int → Prop} {n : Int} : OkZ (.int n) P = P n := by with_unfolding_all rfl
theorem okS_Sub : OkS (sSub i f g ρ) QS = OkE (f ρ) (fun d ρ1 => OkG ρ1[i]? fun x => OkC x fun _ => OkE (g ρ1) (fun kd ρ2 => OkG ρ2[i]? fun x => OkC x fun l => OkZ kd fun n => OkX (ixN l.length n) fun j => QS (.nx (ρ2.set i (some (.lst (l.set j d)))))) fun x ρ => QS (.ex x ρ)) fun x ρ => QS (.ex x ρ) := by
  unfold sSub; rw [okS_bind]
  first | refine okE_ext fun d ρ1 => ?_ | refine okA_ext fun d ρ1 => ?_
  rcases ρ1[i]? with _ | _ | x
  · with_unfolding_all rfl
  · with_unfolding_all rfl
  · cases x <;> try with_unfolding_all rfl
    simp only [okG_some, okC_lst]
    rw [okS_bind]
    first | refine okE_ext fun kd ρ2 => ?_ | refine okA_ext fun kd ρ2 => ?_
    rcases ρ2[i]? with _ | _ | y
    · with_unfolding_all rfl
    · with_unfolding_all rfl
    · cases y <;> try with_unfolding_all rfl
      simp only [okG_some, okC_lst]
      cases kd <;> try with_unfolding_all rfl
      simp only [okZ_int]
      rename_i l n
      cases ixN l.length n <;> with_unfolding_all rfl
def OkFp (d : D) (ns : List String) (nm : Str) (v : D) (QD : D → Prop) [Still ns] [Still nm] [Still QD] : Prop := match d with
  | .ins n fs => n ∈ ns ∧ fs.length < 1000 ∧ QD (.ins n (putD nm v fs))
  | _ => False
theorem okFp_ins {n : String} {ns : List String} {nm : Str} {fs : List (Str × D)} : OkFp (.ins n fs) ns nm d QD = (n ∈ ns ∧ fs.length < 1000 ∧ QD (.ins n (putD nm d fs))) := by with_unfolding_all rfl
theorem okS_Fld {ns : List String} {nm : Str} : OkS (sFld i ns nm f ρ) QS = OkE (f ρ) (fun d ρ1 => OkG ρ1[i]? fun x => OkFp x ns nm d fun y => QS (.nx (ρ1.set i (some y)))) fun x ρ => QS (.ex x ρ) := by
  unfold sFld; rw [okS_bind]
  first | refine okE_ext fun d ρ1 => ?_ | refine okA_ext fun d ρ1 => ?_
  rcases ρ1[i]? with _ | _ | x
  · with_unfolding_all rfl
  · with_unfolding_all rfl
  · cases x <;> try with_unfolding_all rfl
    simp only [okG_some, okFp_ins]
    split
    · rename_i e; simp only [e.1, e.2, true_and]; with_unfolding_all rfl
    · rename_i e; rw [← and_assoc]; simp only [e, false_and]; with_unfolding_all rfl
/-- what a def gives -/
def retK (pm : List Bool) (fall : Bool) (ds : List D) (QF XF : D → List D → Prop) [Still pm] [Still fall] [Still ds] [Still QF] [Still XF] : Out → Prop
  | .nx ρ => fall = true ∧ QF .non (outs pm ds ρ)
  | .rt d ρ => QF d (outs pm ds ρ)
  | .ex x ρ => XF x (outs pm ds ρ)
  | _ => False
theorem retK_nx {pm : List Bool} {fall : Bool} : retK pm fall ds QF XF (.nx ρ) = (fall = true ∧ QF .non (outs pm ds ρ)) := by with_unfolding_all rfl
theorem retK_rt {pm : List Bool} {fall : Bool} : retK pm fall ds QF XF (.rt d ρ) = QF d (outs pm ds ρ) := by with_unfolding_all rfl
theorem retK_ex {pm : List Bool} {fall : Bool} : retK pm fall ds QF XF (.ex d ρ) = XF d (outs pm ds ρ) := by with_unfolding_all rfl
theorem okF_run {pm : List Bool} {fall : Bool} {n : Nat} {B : SM} : OkF (runF pm fall n B ds) QF XF = OkS (B (ds.map some ++ List.replicate (n - ds.length) none)) (retK pm fall ds QF XF) := by
  unfold runF
  rcases B (ds.map some ++ List.replicate (n - ds.length) none) with _ | (_ | _ | _ | _ | _)
  · with_unfolding_all rfl
  · cases fall <;> simp [OkS, retK, OkF]
  all_goals with_unfolding_all rfl
theorem okF_mono {r : Option RF} {Q' X' : D → List D → Prop} (h : OkF r QF XF) (h1 : ∀ d ds, QF d ds → Q' d ds) (h2 : ∀ d ds, XF d ds → X' d ds) : OkF r Q' X' := by
  unfold OkF at h ⊢
  rcases r with _ | ⟨d, ds⟩ | ⟨x, ds⟩
  · exact h
  · exact h1 _ _ h
  · exact h2 _ _ h
theorem okF_ok {r : Option RF} (h : OkF r QF fun _ _ => False) (X' : D → List D → Prop) {Q' : D → List D → Prop} (h1 : ∀ d ds, QF d ds → Q' d ds) : OkF r Q' X' := okF_mono h h1 fun _ _ z => z.elim
/-! loops -/
def lpK (P : Env → Prop) (QS : Out → Prop) [Still P] [Still QS] : Out → Prop
  | .nx ρ => P ρ
  | .ct ρ => P ρ
  | .bk ρ => QS (.nx ρ)
  | o => QS o
theorem lpK_nx {P : Env → Prop} : lpK P QS (.nx ρ) = P ρ := by with_unfolding_all rfl
theorem lpK_ct {P : Env → Prop} : lpK P QS (.ct ρ) = P ρ := by with_unfolding_all rfl
theorem lpK_bk {P : Env → Prop} : lpK P QS (.bk ρ) = QS (.nx ρ) := by with_unfolding_all rfl
theorem lpK_rt {P : Env → Prop} : lpK P QS (.rt d ρ) = QS (.rt d ρ) := by with_unfolding_all rfl
theorem lpK_ex {P : Env → Prop} : lpK P QS (.ex d ρ) = QS (.ex d ρ) := by with_unfolding_all rfl
theorem okS_For {t : Tg} : OkS (sFor t f F ρ) QS = OkE (f ρ) (fun d ρ1 => OkC d fun is => OkS (loopF t F is ρ1) QS) fun x ρ => QS (.ex x ρ) := by
  unfold sFor; rw [okS_bind]
  first | refine okE_ext fun d ρ1 => ?_ | refine okA_ext fun d ρ1 => ?_
  cases d <;> with_unfolding_all rfl
theorem loop_nil {t : Tg} : OkS (loopF t F [] ρ) QS = QS (.nx ρ) := by with_unfolding_all rfl
theorem loop_cons {t : Tg} : OkS (loopF t F (d :: ds) ρ) QS = OkN (tgtD t d ρ) fun ρ1 => OkS (F ρ1) (lpK (fun ρ2 => OkS (loopF t F ds ρ2) QS) QS) := by
  rw [loopF]
  cases tgtD t d ρ with
  | none => with_unfolding_all rfl
  | some ρ1 =>
    simp only [okN_some]
    rcases F ρ1 with _ | (_ | _ | _ | _ | _) <;> with_unfolding_all rfl
theorem okS_mono {r : Option Out} {Q' : Out → Prop} (h : OkS r QS) (h1 : ∀ o, QS o → Q' o) : OkS r Q' := by
  unfold OkS at h ⊢
  cases r with
  | none => exact h
  | some o => exact h1 _ h
/-! typed items -/
/-- a loop over items of one kind, by what holds behind those that are done -/
theorem loop_acc {α : Type} {t : Tg} {enc : α → D} {xs0 : List α} (I : List α → Env → Prop) (step : ∀ don x rest ρ, xs0 = don ++ x :: rest → I don ρ → OkN (tgtD t (enc x) ρ) fun ρ1 => OkS (F ρ1) (lpK (I (don ++ [x])) QS)) (fin : ∀ ρ, I xs0 ρ → QS (.nx ρ)) (h0 : I [] ρ) : OkS (loopF t F (xs0.map enc) ρ) QS := by
  have key : ∀ (rest don : List α) (ρ : Env), xs0 = don ++ rest → I don ρ → OkS (loopF t F (rest.map enc) ρ) QS := by
    intro rest
    induction rest with
    | nil =>
      intro don ρ e h
      rw [List.append_nil] at e
      subst e
      rw [List.map_nil, loop_nil]
      exact fin ρ h
    | cons x rest ih =>
      intro don ρ e h
      rw [List.map_cons, loop_cons]
      have q := step don x rest ρ e h
      cases e2 : tgtD t (enc x) ρ with
      | none => rw [e2] at q; unfold OkN at q; exact q.elim
      | some ρ1 =>
        rw [e2, okN_some] at q
        rw [okN_some]
        refine okS_mono q fun o => ?_
        cases o with
        | nx ρ2 => exact fun z => ih _ ρ2 (by rw [e, List.append_assoc]; rfl) z
        | ct ρ2 => exact fun z => ih _ ρ2 (by rw [e, List.append_assoc]; rfl) z
        | _ => exact fun z => z
  exact key xs0 [] ρ rfl h0
/-- a loop over numbered items -/
theorem loop_rng {t : Tg} {enc : Nat → D} {n : Nat} (I : Nat → Env → Prop) (step : ∀ k ρ, k < n → I k ρ → OkN (tgtD t (enc k) ρ) fun ρ1 => OkS (F ρ1) (lpK (I (k + 1)) QS)) (fin : ∀ ρ, I n ρ → QS (.nx ρ)) (h0 : I 0 ρ) : OkS (loopF t F ((List.range n).map enc) ρ) QS := by
  refine loop_acc (fun don ρ => I don.length ρ) (fun don x rest ρ e h => ?_) (fun ρ h => fin ρ (by rw [List.length_range] at h; exact h)) h0
  have hx : x = don.length ∧ don.length < n := by
    have q := congrArg (fun z => z[don.length]?) e
    rw [List.getElem?_append_right (Nat.le_refl _), Nat.sub_self, List.getElem?_cons_zero] at q
    have hl := (List.getElem?_eq_some_iff.mp q).1
    rw [List.length_range] at hl
    rw [List.getElem?_range hl] at q
    cases q
    exact ⟨rfl, hl⟩
  rw [List.length_append, List.length_cons, List.length_nil, hx.1]
  exact step _ ρ hx.2 h
theorem compF_typed {α : Type} {vs : List Nat} {t : Tg} {enc gD : α → D} (xs : List α) (hl : xs.length ≤ sizeLine) (h : ∀ x ∈ xs, ∃ ρ1, tgtD t (enc x) (wipeD ρ vs) = some ρ1 ∧ OkE (f ρ1) (fun d ρ2 => d = gD x ∧ ρ2 = ρ1) (fun _ _ => False) ∧ restD vs ρ ρ1 = ρ) : OkE (compF vs t none f (xs.map enc) [] ρ) Q X = Q (.lst (xs.map gD)) ρ := by
  have key : ∀ (xs : List α) (acc : List D), acc.length + xs.length ≤ sizeLine → (∀ x ∈ xs, ∃ ρ1, tgtD t (enc x) (wipeD ρ vs) = some ρ1 ∧ OkE (f ρ1) (fun d ρ2 => d = gD x ∧ ρ2 = ρ1) (fun _ _ => False) ∧ restD vs ρ ρ1 = ρ) → OkE (compF vs t none f (xs.map enc) acc ρ) Q X = Q (.lst (acc ++ xs.map gD)) ρ := by
    intro xs
    induction xs with
    | nil => intro acc _ _; rw [List.map_nil, List.map_nil, List.append_nil, compF, okE_ok]
    | cons x xs ih =>
      intro acc hl h
      obtain ⟨ρ1, h1, h2, h3⟩ := h x List.mem_cons_self
      have h2' : f ρ1 = some (.ok (gD x) ρ1) := by
        unfold OkE at h2
        rcases hf : f ρ1 with _ | ⟨d1, ρ2⟩ | ⟨x, ρ2⟩
        · rw [hf] at h2; exact h2.elim
        · rw [hf] at h2; obtain ⟨rfl, rfl⟩ := h2; rfl
        · rw [hf] at h2; exact h2.elim
      rw [List.map_cons, compF, h1]
      simp only [h2', h3]
      rw [List.length_cons] at hl
      rw [if_pos (by omega), ih (acc ++ [gD x]) (by rw [List.length_append]; simp only [List.length_cons, List.length_nil]; omega) fun d hd => h d (List.mem_cons_of_mem _ hd)]
      rw [List.map_cons, List.append_assoc]
      rfl
  rw [key xs [] (by simpa using hl) h, List.nil_append]
theorem okF_eq {r : Option RF} {Q : D → List D → Prop} (h : OkF r Q fun _ _ => False) : ∃ d ds, r = some (.ok d ds) ∧ Q d ds := by
  unfold OkF at h
  rcases r with _ | ⟨x, ρ1⟩ | ⟨x, ρ1⟩
  · exact h.elim
  · exact ⟨_, _, rfl, h⟩
  · exact h.elim
/-! operations -/
theorem okD_if {c : Prop} [Decidable c] : OkD (if c then some d else none) QD = (c ∧ QD d) := by
  by_cases e : c
  · rw [if_pos e]; simp only [e, true_and]; with_unfolding_all rfl
  · rw [if_neg e]; simp only [e, false_and]; with_unfolding_all rfl
theorem addD_int {a b : Int} : addD (.int a) (.int b) = some (.int (a + b)) := by with_unfolding_all rfl
theorem mulD_int {a b : Int} : mulD (.int a) (.int b) = if mulC a b then some (.int (a * b)) else none := by with_unfolding_all rfl
theorem eqD_int {a b : Int} : eqD (.int a) (.int b) = some (.bl (decide (a = b))) := by with_unfolding_all rfl
theorem eqD_str {a b : Str} : eqD (.str a) (.str b) = some (.bl (decide (a = b))) := by with_unfolding_all rfl
theorem eqD_bl {a b : Bool} : eqD (.bl a) (.bl b) = some (.bl (decide (a = b))) := by with_unfolding_all rfl
theorem neD_int {a b : Int} : neD (.int a) (.int b) = some (.bl (!decide (a = b))) := by with_unfolding_all rfl
theorem neD_str {a b : Str} : neD (.str a) (.str b) = some (.bl (!decide (a = b))) := by with_unfolding_all rfl
theorem neD_bl {a b : Bool} : neD (.bl a) (.bl b) = some (.bl (!decide (a = b))) := by with_unfolding_all rfl
theorem ixN_nat {m n : Nat} (h : n < m) : ixN m (n : Int) = some n := by
  unfold ixN
  rw [if_pos (by omega), if_pos (by omega), Int.toNat_natCast]
theorem atI_nat {α : Type} {l : List α} {n : Nat} {x : α} (h : l[n]? = some x) : atI l (n : Int) = some x := by
  obtain ⟨hl, e⟩ := List.getElem?_eq_some_iff.mp h
  unfold atI
  rw [ixN_nat hl]
  exact h
theorem ixL_0 {x : D} {l : List D} : ixD (.lst (x :: l)) (.int 0) = some x := atI_nat (n := 0) rfl
theorem ixL_1 {x x1 : D} {l : List D} : ixD (.lst (x :: x1 :: l)) (.int 1) = some x1 := atI_nat (n := 1) rfl
theorem ixL_2 {x x1 x2 : D} {l : List D} : ixD (.lst (x :: x1 :: x2 :: l)) (.int 2) = some x2 := atI_nat (n := 2) rfl
theorem ixL_3 {x x1 x2 x3 : D} {l : List D} : ixD (.lst (x :: x1 :: x2 :: x3 :: l)) (.int 3) = some x3 := atI_nat (n := 3) rfl
theorem ixT_0 {x : D} {l : List D} : ixD (.tup (x :: l)) (.int 0) = some x := atI_nat (n := 0) rfl
theorem ixT_1 {x x1 : D} {l : List D} : ixD (.tup (x :: x1 :: l)) (.int 1) = some x1 := atI_nat (n := 1) rfl
theorem ixT_2 {x x1 x2 : D} {l : List D} : ixD (.tup (x :: x1 :: x2 :: l)) (.int 2) = some x2 := atI_nat (n := 2) rfl
theorem ixT_3 {x x1 x2 x3 : D} {l : List D} : ixD (.tup (x :: x1 :: x2 :: x3 :: l)) (.int 3) = some x3 := atI_nat (n := 3) rfl
theorem ixN_0 {n : Nat} : ixN (n + 1) 0 = some 0 := ixN_nat (n := 0) (by omega)
theorem ixN_1 {n : Nat} : ixN (n + 1 + 1) 1 = some 1 := ixN_nat (n := 1) (by omega)
theorem ixN_2 {n : Nat} : ixN (n + 1 + 1 + 1) 2 = some 2 := ixN_nat (n := 2) (by omega)
theorem ixN_3 {n : Nat} : ixN (n + 1 + 1 + 1 + 1) 3 = some 3 := ixN_nat (n := 3) (by omega)
theorem isD_non : isD d .non = some (.bl (isN d)) := by cases d <;> with_unfolding_all rfl
theorem isntD_non : isntD d .non = some (.bl (!isN d)) := by cases d <;> with_unfolding_all rfl
theorem listD_lst : listD (.lst ds) = some ds := by with_unfolding_all rfl
theorem listD_slst {ns : List Int} : listD (.slst ns) = some (ns.map .int) := by with_unfolding_all rfl
theorem appendD_ok {d : D} : appendD ds [d] = if ds.length < 1000000 then some (.non, ds ++ [d]) else none := by with_unfolding_all rfl
theorem extendD_ok {es : List D} : extendD ds [.lst es] = if ds.length + es.length < 1000000 then some (.non, ds ++ es) else none := by with_unfolding_all rfl
theorem okMu_if {c : Prop} [Decidable c] {z : D} {P : D → List D → Prop} : OkMu (if c then some (z, ds) else none) P = (c ∧ P z ds) := by
  by_cases e : c
  · rw [if_pos e]; simp only [e, true_and]; with_unfolding_all rfl
  · rw [if_neg e]; simp only [e, false_and]; with_unfolding_all rfl
theorem okL_if {c : Prop} [Decidable c] : OkL (if c then some ds else none) QL = (c ∧ QL ds) := by
  by_cases e : c
  · rw [if_pos e]; simp only [e, true_and]; with_unfolding_all rfl
  · rw [if_neg e]; simp only [e, false_and]; with_unfolding_all rfl
theorem k_rng1_int {j : Int} : k_rng1 [.int j] = if rngC j then some (rngL 0 j.toNat) else none := by with_unfolding_all rfl
theorem k_rng2_int {i j : Int} : k_rng2 [.int i, .int j] = if rngC i ∧ rngC j then some (rngL i (j - i).toNat) else none := by with_unfolding_all rfl
section
variable {a b : Int}
theorem subD_int : subD (.int a) (.int b) = some (.int (a - b)) := by with_unfolding_all rfl
theorem modD_int : modD (.int a) (.int b) = if 0 < b then some (.int (a % b)) else none := by with_unfolding_all rfl
theorem divD_int : divD (.int a) (.int b) = if divC b then some (.int (a / b)) else none := by with_unfolding_all rfl
theorem powD_int : powD (.int a) (.int b) = if powC a b then some (.int (a ^ b.toNat)) else none := by with_unfolding_all rfl
theorem shlD_int : shlD (.int a) (.int b) = if shlC a b then some (.int (a * 2 ^ b.toNat)) else none := by with_unfolding_all rfl
theorem shrD_int : shrD (.int a) (.int b) = if 0 ≤ b then some (.int (a / 2 ^ b.toNat)) else none := by with_unfolding_all rfl
theorem andD_int : andD (.int a) (.int b) = some (.int (Builtin.bitAnd a b)) := by with_unfolding_all rfl
theorem xorD_int : xorD (.int a) (.int b) = some (.int (Builtin.bitXor a b)) := by with_unfolding_all rfl
theorem negD_int : negD (.int a) = some (.int (-a)) := by with_unfolding_all rfl
theorem ltD_int : ltD (.int a) (.int b) = some (.bl (decide (a < b))) := by with_unfolding_all rfl
theorem leD_int : leD (.int a) (.int b) = some (.bl (decide (a ≤ b))) := by with_unfolding_all rfl
theorem gtD_int : gtD (.int a) (.int b) = some (.bl (decide (b < a))) := by with_unfolding_all rfl
theorem geD_int : geD (.int a) (.int b) = some (.bl (decide (b ≤ a))) := by with_unfolding_all rfl
theorem subI_int : subI (.int a) (.int b) = some (.int (a - b)) := by with_unfolding_all rfl
theorem addI_int : addI (.int a) (.int b) = some (.int (a + b)) := by with_unfolding_all rfl
theorem b_int_int : b_int [.int a] = some (.int a) := by with_unfolding_all rfl
theorem b_int_bl {c : Bool} : b_int [.bl c] = some (.int (if c then 1 else 0)) := by with_unfolding_all rfl
theorem b_max2_int : b_max2 [.int a, .int b] = some (.int (if b > a then b else a)) := by with_unfolding_all rfl
theorem b_min2_int : b_min2 [.int a, .int b] = some (.int (if b < a then b else a)) := by with_unfolding_all rfl
theorem b_abs_int : b_abs [.int a] = some (.int (if a < 0 then -a else a)) := by with_unfolding_all rfl
theorem pow1018 : powD (.int 10) (.int 18) = some (.int 1000000000000000000) := by
  rw [powD_int, if_pos (show powC _ _ from ⟨by decide, by decide +kernel⟩)]
  exact congrArg some (congrArg D.int (by decide +kernel))
theorem pow1015 : powD (.int 10) (.int 15) = some (.int 1000000000000000) := by
  rw [powD_int, if_pos (show powC _ _ from ⟨by decide, by decide +kernel⟩)]
  exact congrArg some (congrArg D.int (by decide +kernel))
end
section
variable {a b : Int}
theorem mulD_ok : OkD (mulD (.int a) (.int b)) QD = (mulC a b ∧ QD (.int (a * b))) := by rw [mulD_int, okD_if]
theorem modD_ok : OkD (modD (.int a) (.int b)) QD = (0 < b ∧ QD (.int (a % b))) := by rw [modD_int, okD_if]
theorem divD_ok : OkD (divD (.int a) (.int b)) QD = (divC b ∧ QD (.int (a / b))) := by rw [divD_int, okD_if]
theorem powD_ok : OkD (powD (.int a) (.int b)) QD = (powC a b ∧ QD (.int (a ^ b.toNat))) := by rw [powD_int, okD_if]
theorem shlD_ok : OkD (shlD (.int a) (.int b)) QD = (shlC a b ∧ QD (.int (a * 2 ^ b.toNat))) := by rw [shlD_int, okD_if]
theorem shrD_ok : OkD (shrD (.int a) (.int b)) QD = (0 ≤ b ∧ QD (.int (a / 2 ^ b.toNat))) := by rw [shrD_int, okD_if]
theorem okMu_app {d : D} {P : D → List D → Prop} : OkMu (appendD ds [d]) P = (ds.length < 1000000 ∧ P .non (ds ++ [d])) := by rw [appendD_ok, okMu_if]
theorem okMu_ext {es : List D} {P : D → List D → Prop} : OkMu (extendD ds [.lst es]) P = (ds.length + es.length < 1000000 ∧ P .non (ds ++ es)) := by rw [extendD_ok, okMu_if]
theorem okL_rng1 : OkL (k_rng1 [.int a]) QL = (rngC a ∧ QL (rngL 0 a.toNat)) := by rw [k_rng1_int, okL_if]
theorem okL_rng2 : OkL (k_rng2 [.int a, .int b]) QL = ((rngC a ∧ rngC b) ∧ QL (rngL a (b - a).toNat)) := by rw [k_rng2_int, okL_if]
theorem k_enumT_str {z : Str} : k_enumT [.str z] = some (enumL 0 (chrL z)) := by with_unfolding_all rfl
theorem k_enum_lst : k_enum [.lst ds] = some (enumL 0 ds) := by with_unfolding_all rfl
theorem b_sum_ints {ns : List Int} : b_sum [.lst (ns.map .int)] = some (.int ns.sum) := by
  show ((some (ns.map D.int)).bind intsD).map (fun ns => D.int ns.sum) = _
  rw [Option.bind_some, show intsD (ns.map D.int) = some ns from by induction ns with
    | nil => rfl
    | cons n ns ih => rw [List.map_cons, intsD, ih]; rfl]
  with_unfolding_all rfl
theorem b_sum_2 : b_sum [.lst [.int a, .int b]] = some (.int (a + b)) := by
  have h := b_sum_ints (ns := [a, b])
  rw [show [a, b].sum = a + b by simp] at h
  exact h
theorem addD_str {x y : Str} : OkD (addD (.str x) (.str y)) QD = (x.length + y.length ≤ sizeLine ∧ QD (.str (x ++ y))) := by
  show OkD (if x.length + y.length ≤ sizeLine then some (.str (x ++ y)) else none) QD = _
  rw [okD_if]
theorem mulD_str {x : Str} : OkD (mulD (.str x) (.int a)) QD = ((x.length ≤ 1000 ∧ -1000 ≤ a ∧ a ≤ 1000) ∧ QD (.str (Txt.mul x a))) := by
  show OkD (if x.length ≤ 1000 ∧ -1000 ≤ a ∧ a ≤ 1000 then some (.str (Txt.mul x a)) else none) QD = _
  rw [okD_if]
end
theorem m_count_str {x y : Str} : m_count (.str x) [.str y] = some (.int (Txt.count x y)) := by with_unfolding_all rfl
theorem b_len_str {x : Str} : OkD (b_len [.str x]) QD = (x.length ≤ sizeLine ∧ QD (.int (x.length : Nat))) := by
  show OkD (if x.length ≤ sizeLine then some (.int (x.length : Nat)) else none) QD = _
  rw [okD_if]
theorem b_len_lst : b_len [.lst ds] = some (.int (ds.length : Nat)) := by with_unfolding_all rfl
theorem b_len_tup : b_len [.tup ds] = some (.int (ds.length : Nat)) := by with_unfolding_all rfl
theorem tgtD_nm : tgtD (.nm i) d ρ = some (ρ.set i (some d)) := by rw [tgtD]
theorem tgtD_tp {ts : List Tg} : tgtD (.tp ts) (.tup ds) ρ = tgtsD ts ds ρ := by rw [tgtD]
theorem tgtsD_nil : tgtsD [] [] ρ = some ρ := by rw [tgtsD]
theorem tgtsD_cons {t : Tg} {ts : List Tg} : tgtsD (t :: ts) (d :: ds) ρ = (tgtD t d ρ).bind fun ρ1 => tgtsD ts ds ρ1 := by rw [tgtsD]
section
variable {ks : List Kd} {is : List Nat} {pm : List Bool} {x : Option D}
theorem argD_full : argD (.full :: ks) (d :: ds) ρ = d :: argD ks ds ρ := by with_unfolding_all rfl
theorem argD_own : argD (.own :: ks) (d :: ds) ρ = d :: argD ks ds ρ := by with_unfolding_all rfl
theorem argD_root : argD (.root :: ks) (d :: ds) ρ = d :: argD ks ds ρ := by with_unfolding_all rfl
theorem argD_cel : argD (.cel i :: ks) (d :: ds) ρ = ((ρ[i]?).join.getD .non) :: argD ks ds ρ := by with_unfolding_all rfl
theorem argD_nil : argD [] ds ρ = [] := by cases ds <;> with_unfolding_all rfl
theorem putC_full : putC (.full :: ks) (d :: ds) ρ = putC ks ds ρ := by with_unfolding_all rfl
theorem putC_own : putC (.own :: ks) (d :: ds) ρ = putC ks ds ρ := by with_unfolding_all rfl
theorem putC_root : putC (.root :: ks) (d :: ds) ρ = putC ks ds ρ := by with_unfolding_all rfl
theorem putC_cel : putC (.cel i :: ks) (d :: ds) ρ = (putC ks ds ρ).set i (some d) := by with_unfolding_all rfl
theorem putC_nil : putC [] ds ρ = ρ := by cases ds <;> with_unfolding_all rfl
theorem outs_t : outs (true :: pm) (d :: ds) (x :: ρ) = x.getD d :: outs pm ds ρ := by with_unfolding_all rfl
theorem outs_f : outs (false :: pm) (d :: ds) (x :: ρ) = d :: outs pm ds ρ := by with_unfolding_all rfl
theorem outs_nil : outs [] ds ρ = ds := by cases ds <;> cases ρ <;> with_unfolding_all rfl
theorem stD_cons : stD (i :: is) (d :: ds) ρ = stD is ds (ρ.set i (some d)) := by with_unfolding_all rfl
theorem stD_nil : stD [] ds ρ = ρ := by cases ds <;> with_unfolding_all rfl
end
theorem okF_val : OkF (some (.ok d ds)) QF XF = QF d ds := by with_unfolding_all rfl
theorem okF_exc : OkF (some (.ex d ds)) QF XF = XF d ds := by with_unfolding_all rfl
theorem bitsD_int {i : Int} : bitsD (.int i) = some (.int (Builtin.Int.intBits i : Nat)) := by with_unfolding_all rfl
theorem b_gcd_int {i j : Int} : b_gcd [.int i, .int j] = some (.int (Nat.gcd i.natAbs j.natAbs : Nat)) := by with_unfolding_all rfl
theorem b_comb_ok {i j : Int} : OkD (b_comb [.int i, .int j]) QD = (combC i j ∧ QD (.int (PySem.W.mcComb i j))) := by
  show OkD (if combC i j then some (.int (PySem.W.mcComb i j)) else none) QD = _
  rw [okD_if]
theorem b_tuple_tup : b_tuple [.tup ds] = some (.tup ds) := by with_unfolding_all rfl
theorem b_tuple_lst : b_tuple [.lst ds] = some (.tup ds) := by with_unfolding_all rfl
theorem b_str_str {x : Str} : b_str [.str x] = some (.str x) := by with_unfolding_all rfl
theorem b_str_int {i : Int} : OkD (b_str [.int i]) QD = (i.natAbs.log2 < 1920 ∧ QD (.str (toString i))) := by
  show OkD (if i.natAbs.log2 < 1920 then some (.str (toString i)) else none) QD = _
  rw [okD_if]
theorem addD_lst {a b : List D} : OkD (addD (.lst a) (.lst b)) QD = (a.length + b.length ≤ sizeLine ∧ QD (.lst (a ++ b))) := by
  show OkD (if a.length + b.length ≤ sizeLine then some (.lst (a ++ b)) else none) QD = _
  rw [okD_if]
theorem addD_tup {a b : List D} : OkD (addD (.tup a) (.tup b)) QD = (a.length + b.length ≤ sizeLine ∧ QD (.tup (a ++ b))) := by
  show OkD (if a.length + b.length ≤ sizeLine then some (.tup (a ++ b)) else none) QD = _
  rw [okD_if]
theorem catD_lst {a b : List D} : OkD (catD (.lst a) (.lst b)) QD = (a.length + b.length ≤ sizeLine ∧ QD (.lst (a ++ b))) := by
  show OkD (if a.length + b.length ≤ sizeLine then some (.lst (a ++ b)) else none) QD = _
  rw [okD_if]
theorem mulD_lst {x : List D} {a : Int} : OkD (mulD (.lst x) (.int a)) QD = (repC x.length a ∧ QD (.lst (List.replicate a.toNat x).flatten)) := by
  show OkD (if repC x.length a then some (.lst (List.replicate a.toNat x).flatten) else none) QD = _
  rw [okD_if]
theorem repD_lst {x : List D} {a : Int} : OkD (repD (.lst x) (.int a)) QD = (repC x.length a ∧ QD (.lst (List.replicate a.toNat x).flatten)) := by
  show OkD (if repC x.length a then some (.lst (List.replicate a.toNat x).flatten) else none) QD = _
  rw [okD_if]
theorem k_zip_lst {a b : List D} : k_zip [.lst a, .lst b] = some (zipL a b) := by with_unfolding_all rfl
theorem k_rev_lst {a : List D} : k_rev [.lst a] = some a.reverse := by with_unfolding_all rfl
theorem b_list_lst {a : List D} : b_list [.lst a] = some (.lst a) := by with_unfolding_all rfl
theorem b_list_tup {a : List D} : b_list [.tup a] = some (.lst a) := by with_unfolding_all rfl
/-- what a def gives, once and for all -/
theorem eqF {r : Option RF} {ds0 : List D} {d0 : D} (h : OkF r (fun d ds => d = d0 ∧ ds = ds0) fun _ _ => False) : r = some (.ok d0 ds0) := by
  unfold OkF at h
  rcases r with _ | ⟨x, ρ1⟩ | ⟨x, ρ1⟩
  · exact h.elim
  · obtain ⟨rfl, rfl⟩ := h; with_unfolding_all rfl
  · exact h.elim
/-! ### plain data of moderate size: its text is short, it is equal to itself -/
def Pl (k n : Nat) (d : D) : Prop := ∃ p, D.py d = some p ∧ p.showable = true ∧ p.hasDict = false ∧ p.depth ≤ k ∧ p.leavesShort 1002 = true ∧ p.bulk ≤ n ∧ p.canLay0 = true
theorem Pl.mono {k n k' n' : Nat} {d : D} (h : Pl k n d) (hk : k ≤ k') (hn : n ≤ n') : Pl k' n' d := by
  obtain ⟨p, h1, h2, h3, h4, h5, h6, h7⟩ := h
  exact ⟨p, h1, h2, h3, Nat.le_trans h4 hk, h5, Nat.le_trans h6 hn, h7⟩
theorem pl_atm {d : D} {p : PyData} (e : D.py d = some p) (h : Lk.Atm p) (n : Nat) (hb : p.bulk ≤ n) : Pl 0 n d := by
  obtain ⟨a1, a2, a3, a4, a5, a6⟩ := Lk.atm_ok p h
  exact ⟨p, e, a1, a2, Nat.le_of_eq a3, a5, hb, a4⟩
theorem pl_int {i : Int} (h : i.natAbs < 2 ^ 1000) : Pl 0 0 (.int i) := pl_atm (p := .int i) rfl h 0 (by simp [PyData.bulk])
theorem pl_nat {i : Nat} (h : i < 2 ^ 1000) : Pl 0 0 (.int (i : Nat)) := pl_int (by rw [Int.natAbs_natCast]; exact h)
theorem pl_all {k n : Nat} : ∀ {ds : List D}, (∀ d ∈ ds, Pl k n d) → ∃ ps, D.pys ds = some ps ∧ PyData.showableAll ps = true ∧ PyData.hasDictAll ps = false ∧ PyData.depthAll ps ≤ k ∧ PyData.leavesShortAll 1002 ps = true ∧ PyData.bulkAll ps ≤ (n + 1) * ds.length ∧ PyData.canLayAll0 ps = true
  | [], _ => ⟨[], rfl, by simp only [PyData.showableAll], by simp only [PyData.hasDictAll], by simp [PyData.depthAll], by simp only [PyData.leavesShortAll], by simp [PyData.bulkAll], by simp only [PyData.canLayAll0]⟩
  | d :: ds, h => by
    obtain ⟨p, h1, h2, h3, h4, h5, h6, h7⟩ := h d List.mem_cons_self
    obtain ⟨ps, g1, g2, g3, g4, g5, g6, g7⟩ := pl_all fun e he => h e (List.mem_cons_of_mem _ he)
    refine ⟨p :: ps, by rw [D.pys, h1, Option.bind_some, g1]; rfl, ?_, ?_, ?_, ?_, ?_, ?_⟩
    · simp only [PyData.showableAll, h2, g2, Bool.and_self]
    · simp only [PyData.hasDictAll, h3, g3, Bool.or_self]
    · simp only [PyData.depthAll]; omega
    · simp only [PyData.leavesShortAll, h5, g5, Bool.and_self]
    · simp only [PyData.bulkAll, List.length_cons]
      have : (n + 1) * (ds.length + 1) = (n + 1) * ds.length + (n + 1) := by rw [Nat.mul_add, Nat.mul_one]
      omega
    · simp only [PyData.canLayAll0, h7, g7, Bool.and_self]
theorem pl_lst {k n : Nat} {ds : List D} (h : ∀ d ∈ ds, Pl k n d) : Pl (k + 1) ((n + 1) * ds.length) (.lst ds) := by
  obtain ⟨ps, g1, g2, g3, g4, g5, g6, g7⟩ := pl_all h
  refine ⟨.list ps, by show (D.pys ds).map PyData.list = _; rw [g1]; rfl, ?_, ?_, ?_, ?_, ?_, ?_⟩
  · simpa only [PyData.showable] using g2
  · simpa only [PyData.hasDict] using g3
  · simp only [PyData.depth]; omega
  · simpa only [PyData.leavesShort] using g5
  · simpa only [PyData.bulk] using g6
  · simpa only [PyData.canLay0] using g7
theorem Pl.shaped {k n : Nat} {d : D} (h : Pl k n d) (hk : k ≤ 8) : ∃ p, D.py d = some p ∧ SeqAt.shaped p = true := by
  obtain ⟨p, h1, h2, h3, h4, h5, h6, h7⟩ := h
  refine ⟨p, h1, ?_⟩
  show (p.canLay0 && decide (p.depth ≤ 64)) = true
  rw [h7, decide_eq_true (show p.depth ≤ 64 by omega)]
  rfl
theorem eqB_py {a b : D} {p q : PyData} (ha : D.py a = some p) (hb : D.py b = some q) (h1 : SeqAt.shaped p = true) (h2 : SeqAt.shaped q = true) : eqB a b = some (PyData.eqv p q) := by
  have gen : (match D.py a, D.py b with
      | some p, some q => if SeqAt.shaped p = true ∧ SeqAt.shaped q = true then some (PyData.eqv p q) else none
      | _, _ => none) = some (PyData.eqv p q) := by
    rw [ha, hb]
    exact if_pos ⟨h1, h2⟩
  unfold eqB
  split
  · cases ha; cases hb; simp [PyData.eqv, Bool.beq_eq_decide_eq]
  · cases ha; cases hb; simp [PyData.eqv, Bool.beq_eq_decide_eq]
  · rename_i i j; cases ha; cases hb; cases i <;> cases j <;> simp [PyData.eqv]
  · exact gen
theorem Pl.same {k n : Nat} {d : D} (h : Pl k n d) (hk : k ≤ 8) : eqB d d = some true := by
  obtain ⟨p, h1, h2⟩ := h.shaped hk
  rw [eqB_py h1 h1 h2 h2, Lk.eqv_same h2]
theorem Pl.eqD {k n : Nat} {d : D} (h : Pl k n d) (hk : k ≤ 8 := by decide) : eqD d d = some (.bl true) := by
  show (eqB d d).map D.bl = _
  rw [h.same hk]
  rfl
theorem Pl.neD {k n : Nat} {d : D} (h : Pl k n d) (hk : k ≤ 8 := by decide) : neD d d = some (.bl false) := by
  show (eqB d d).map (fun c => D.bl (!c)) = _
  rw [h.same hk]
  rfl
end Mi

set_option Elab.async false
set_option linter.all false
set_option maxRecDepth 4000
set_option maxHeartbeats 4000000
/-! the rules of %run for dicts -/
namespace Mi
open PySem PySem.Spec PyProof.Rows L2
section
variable {Q X : PE1} {QS : Out → Prop} {QD : D → Prop} {ρ : Env} {f g h : E} {i : Nat} [Still Q] [Still X] [Still QS] [Still QD]
theorem okE_Dit : OkE (eDit ρ) Q X = Q (.dit []) ρ := by with_unfolding_all rfl
theorem okE_Dii : OkE (eDii ρ) Q X = Q (.dii []) ρ := by with_unfolding_all rfl
/-- a key that is a tuple -/
@[irreducible] def OkK (d : D) (P : List Key → Prop) [Still P] : Prop := match kyT d with
  | some q => P q
  | none => False
theorem okK_of {d : D} {q : List Key} {P : List Key → Prop} [Still P] (e : kyT d = some q) : OkK d P = P q := by unfold OkK; rw [e]
theorem okE_Disp1 : OkE (eDisp1 f g ρ) Q X = OkE (f ρ) (fun k ρ1 => OkK k fun q => OkE (g ρ1) (fun d ρ2 => Q (.dit [(q, d)]) ρ2) X) X := by
  unfold eDisp1; rw [okE_bind]
  refine okE_ext fun k ρ1 => ?_
  cases e : kyT k with
  | none => unfold OkK; rw [e]; with_unfolding_all rfl
  | some q =>
    rw [okK_of e]
    dsimp only
    rw [okE_bind]
    refine okE_ext fun d ρ2 => ?_
    rw [okE_ok]
    rfl
theorem okS_Dput : OkS (sDput i f g ρ) QS = OkE (f ρ) (fun v ρ1 => OkG ρ1[i]? fun _ => OkE (g ρ1) (fun k ρ2 => OkG ρ2[i]? fun d => OkD (dputD d k v) fun d' => QS (.nx (ρ2.set i (some d')))) fun x ρ => QS (.ex x ρ)) fun x ρ => QS (.ex x ρ) := by
  unfold sDput; rw [okS_bind]
  refine okE_ext fun v ρ1 => ?_
  rcases ρ1[i]? with _ | _ | x
  · with_unfolding_all rfl
  · with_unfolding_all rfl
  · simp only [okG_some]
    rw [okS_bind]
    refine okE_ext fun k ρ2 => ?_
    rcases ρ2[i]? with _ | _ | y
    · with_unfolding_all rfl
    · with_unfolding_all rfl
    · simp only [okG_some]
      cases dputD y k v <;> with_unfolding_all rfl
theorem okE_Dget2 : OkE (eDget2 f g h ρ) Q X = OkE (f ρ) (fun a ρ1 => isDit a = true ∧ OkE (g ρ1) (fun k ρ2 => OkE (h ρ2) (fun z ρ3 => OkD (dget2D a k z) fun d => Q d ρ3) X) X) X := by
  unfold eDget2; rw [okE_bind]
  refine okE_ext fun a ρ1 => ?_
  by_cases e : isDit a = true
  · rw [if_pos e, eq_true e, true_and, okE_bind]
    refine okE_ext fun k ρ2 => ?_
    rw [okE_bind]
    refine okE_ext fun z ρ3 => ?_
    rw [okE_lift]
  · rw [if_neg e]
    have e2 : (isDit a = true) = False := eq_false e
    rw [e2, false_and]
    with_unfolding_all rfl
/-- what comes behind a statement that may let nothing out -/
def noEx (QS : Out → Prop) : Out → Prop
  | .ex _ _ => False
  | o => QS o
end
end Mi

set_option Elab.async false
set_option linter.all false
set_option maxRecDepth 4000
set_option maxHeartbeats 4000000
/-! the rules of %run for exceptions that are kept -/
namespace Mi
open PySem PySem.Spec PyProof.Rows L2
section
variable {Q X : PE1} {QS : Out → Prop} {QD : D → Prop} {ρ : Env} {f g h : E} {i j : Nat} [Still Q] [Still X] [Still QS] [Still QD]
theorem okE_Dic : OkE (eDic ρ) Q X = Q (.dic []) ρ := by with_unfolding_all rfl
theorem okE_Js0 {acc : Str} : OkE (eJs [] acc ρ) Q X = Q (.str acc) ρ := by with_unfolding_all rfl
/-- the next part of an f-string -/
@[irreducible] def OkJ (d : D) (acc : Str) (P : Str → Prop) [Still P] : Prop := match fmtD d with
  | some y => (acc ++ y).length ≤ sizeLine ∧ P (acc ++ y)
  | none => False
theorem okE_Js {p : Bool × E} {fs : List (Bool × E)} {acc : Str} : OkE (eJs (p :: fs) acc ρ) Q X = OkE (p.2 ρ) (fun d ρ1 => OkJ d acc fun a => OkE (eJs fs a ρ1) Q X) X := by
  show OkE (eBind (p.2 ρ) _) Q X = _
  rw [okE_bind]
  refine okE_ext fun d ρ1 => ?_
  unfold OkJ
  cases e : fmtD d with
  | none => dsimp only; with_unfolding_all rfl
  | some y =>
    dsimp only
    by_cases h : (acc ++ y).length ≤ sizeLine
    · rw [if_pos h, eq_true h, true_and]
    · rw [if_neg h, eq_false h, false_and]; with_unfolding_all rfl
theorem okJ_str {y acc : Str} {P : Str → Prop} [Still P] : OkJ (.str y) acc P = (y.length ≤ sizeLine ∧ (acc ++ y).length ≤ sizeLine ∧ P (acc ++ y)) := by
  unfold OkJ fmtD
  by_cases h : y.length ≤ sizeLine
  · simp only [h, if_true, true_and]
  · simp only [h, if_false, false_and]
theorem okS_Raise1 {n : String} : OkS (sRaise1 n f ρ) QS = OkE (f ρ) (fun _ ρ1 => QS (.ex (.exc n []) ρ1)) (fun x ρ1 => QS (.ex x ρ1)) := by
  unfold sRaise1; rw [okS_bind]
  refine okE_ext fun d ρ1 => ?_
  rw [okS_some]
/-- what a raise that keeps a value comes to -/
def OkOx (d : D) (n : String) (txt fld : Str) (P : D → Prop) [Still n] [Still txt] [Still fld] [Still P] : Prop := match oexV d with
  | some y => (Lk.shownO txt y).isSome = true ∧ P (.exc n [(fld, d)])
  | none => False
theorem okOx_non {n : String} {txt fld : Str} {P : D → Prop} : OkOx .non n txt fld P = ((Lk.shownO txt .non).isSome = true ∧ P (.exc n [(fld, .non)])) := by with_unfolding_all rfl
theorem okOx_int {n : String} {txt fld : Str} {P : D → Prop} {i : Int} : OkOx (.int i) n txt fld P = ((Lk.shownO txt (.int i)).isSome = true ∧ P (.exc n [(fld, .int i)])) := by with_unfolding_all rfl
theorem okS_RaiseX {n : String} {txt fld : Str} : OkS (sRaiseX n txt fld f ρ) QS = OkE (f ρ) (fun d ρ1 => OkOx d n txt fld fun x => QS (.ex x ρ1)) (fun x ρ1 => QS (.ex x ρ1)) := by
  unfold sRaiseX; rw [okS_bind]
  refine okE_ext fun d ρ1 => ?_
  unfold OkOx
  cases oexV d with
  | none => with_unfolding_all rfl
  | some y =>
    dsimp only
    by_cases h : (Lk.shownO txt y).isSome = true
    · rw [if_pos h, okS_some]; simp only [h, true_and]
    · rw [if_neg h, show OkS none QS = False from by with_unfolding_all rfl]
      exact propext ⟨fun z => z.elim, fun z => absurd z.1 h⟩
theorem okE_Mk0 {n : String} : OkE (eMk0 n f ρ) Q X = OkE (f ρ) (fun _ ρ1 => Q (.exc n []) ρ1) X := by
  unfold eMk0; rw [okE_bind]
  refine okE_ext fun d ρ1 => ?_
  rw [okE_ok]
theorem okE_MkX {n : String} {txt fld : Str} : OkE (eMkX n txt fld f ρ) Q X = OkE (f ρ) (fun d ρ1 => OkOx d n txt fld fun x => Q x ρ1) X := by
  unfold eMkX; rw [okE_bind]
  refine okE_ext fun d ρ1 => ?_
  unfold OkOx
  cases oexV d with
  | none => with_unfolding_all rfl
  | some y =>
    dsimp only
    by_cases h : (Lk.shownO txt y).isSome = true
    · rw [if_pos h, okE_ok]; simp only [h, true_and]
    · rw [if_neg h, show OkE none Q X = False from by with_unfolding_all rfl]
      exact propext ⟨fun z => z.elim, fun z => absurd z.1 h⟩
theorem addSD_slst {a : List Int} {b : List D} {P : D → Prop} : OkD (addSD (.slst a) (.lst b)) P = (a.length + b.length ≤ sizeLine ∧ P (.lst (a.map .int ++ b))) := by
  show OkD (if a.length + b.length ≤ sizeLine then some (.lst (a.map .int ++ b)) else none) P = _
  by_cases h : a.length + b.length ≤ sizeLine
  · rw [if_pos h, okD_some]; simp only [h, true_and]
  · rw [if_neg h, show OkD none P = False from by with_unfolding_all rfl]
    exact propext ⟨fun z => z.elim, fun z => absurd z.1 h⟩
/-- an exception's field -/
def OkXf (d : D) (ns : List String) (nm : Str) (QD : D → Prop) [Still ns] [Still nm] [Still QD] : Prop := match d with
  | .exc n fs => n ∈ ns ∧ OkD (fs.lookup nm) QD
  | _ => False
theorem okXf_exc {n : String} {ns : List String} {nm : Str} {fs : List (Str × D)} {QD : D → Prop} : OkXf (.exc n fs) ns nm QD = (n ∈ ns ∧ OkD (fs.lookup nm) QD) := by with_unfolding_all rfl
theorem okE_Xf {ns : List String} {nm : Str} : OkE (eXf ns nm f ρ) Q X = OkE (f ρ) (fun d ρ1 => OkXf d ns nm fun d => Q d ρ1) X := by
  unfold eXf; rw [okE_bind]
  first | refine okE_ext fun d ρ1 => ?_ | refine okA_ext fun d ρ1 => ?_
  cases d <;> try with_unfolding_all rfl
  rename_i n fs
  simp only [okXf_exc]
  by_cases e : n ∈ ns
  · rw [if_pos e]
    cases fs.lookup nm with
    | none => simp only [e, true_and]; with_unfolding_all rfl
    | some z => simp only [e, true_and, okE_ok, okD_some]
  · rw [if_neg e]; simp only [e, false_and]; with_unfolding_all rfl
theorem okE_Dead : OkE (eDead ρ) Q X = False := by with_unfolding_all rfl
/-- behind a try that keeps what it catches -/
def tryK (t : CTab) (i j : Nat) (QS : Out → Prop) : Out → Prop
  | .ex (.exc n fs) ρ1 => match t.lookup n with
    | some true => i < ρ1.length ∧ QS (.nx ((ρ1.set j (some (.exc n fs))).set i none))
    | some false => QS (.ex (.exc n fs) ρ1)
    | none => False
  | .ex _ _ => False
  | o => QS o
instance {t : CTab} [Still QS] : Still (tryK t i j QS) := ⟨⟩
theorem okS_TryAs {t : CTab} {F : SM} : OkS (sTryAs t i j F ρ) QS = OkS (F ρ) (tryK t i j QS) := by
  unfold sTryAs
  rcases F ρ with _ | o
  · with_unfolding_all rfl
  · cases o with
    | ex x ρ1 =>
      cases x with
      | exc n fs =>
        simp only [okS_some, tryK]
        cases e : t.lookup n with
        | none => with_unfolding_all rfl
        | some b =>
          cases b with
          | false => simp only [okS_some]
          | true =>
            dsimp only
            by_cases hl : i < ρ1.length
            · rw [if_pos hl, okS_some, eq_true hl, true_and]
            · rw [if_neg hl, eq_false hl, false_and]
              with_unfolding_all rfl
      | _ => with_unfolding_all rfl
    | _ => simp only [okS_some, tryK]
theorem tryK_nx {t : CTab} : tryK t i j QS (.nx ρ) = QS (.nx ρ) := rfl
theorem tryK_rt {t : CTab} {d : D} : tryK t i j QS (.rt d ρ) = QS (.rt d ρ) := rfl
end
theorem isD_exc {n : String} {fs : List (Str × D)} : isD (.exc n fs) .non = some (.bl false) := rfl
/-! ### plain data in which empty dicts may stand: its text is short -/
mutual
theorem pyz_of_py : ∀ {d : D} {p : PyData}, D.py d = some p → D.pyz d = some p
  | .non, _, e => e
  | .bl _, _, e => e
  | .int _, _, e => e
  | .str _, _, e => e
  | .tup ds, _, e => by
    obtain ⟨ps, e1, rfl⟩ := Option.map_eq_some_iff.mp (show (D.pys ds).map PyData.tuple = _ from e)
    show (D.pyzs ds).map PyData.tuple = _
    rw [pyzs_of_pys e1]; rfl
  | .lst ds, _, e => by
    obtain ⟨ps, e1, rfl⟩ := Option.map_eq_some_iff.mp (show (D.pys ds).map PyData.list = _ from e)
    show (D.pyzs ds).map PyData.list = _
    rw [pyzs_of_pys e1]; rfl
  | .slst _, _, e => e
  | .ty _, _, e => by cases e
  | .cls _, _, e => by cases e
  | .dic _, _, e => by cases e
  | .dit _, _, e => by cases e
  | .dii _, _, e => by cases e
  | .ins _ _, _, e => by cases e
  | .exc _ _, _, e => by cases e
theorem pyzs_of_pys : ∀ {ds : List D} {ps : List PyData}, D.pys ds = some ps → D.pyzs ds = some ps
  | [], _, e => e
  | d :: ds, _, e => by
    obtain ⟨p, e1, e2⟩ := Option.bind_eq_some_iff.mp (show (D.py d).bind (fun p => (D.pys ds).map (p :: ·)) = _ from e)
    obtain ⟨ps, e3, rfl⟩ := Option.map_eq_some_iff.mp e2
    show (D.pyz d).bind (fun p => (D.pyzs ds).map (p :: ·)) = _
    rw [pyz_of_py e1, pyzs_of_pys e3]; rfl
end
def Pz (k n : Nat) (d : D) : Prop := ∃ p, D.pyz d = some p ∧ p.showable = true ∧ p.depth ≤ k ∧ p.leavesShort 1002 = true ∧ p.bulk ≤ n
theorem Pz.mono {k n k' n' : Nat} {d : D} (h : Pz k n d) (hk : k ≤ k' := by decide) (hn : n ≤ n' := by decide) : Pz k' n' d := by
  obtain ⟨p, h1, h2, h4, h5, h6⟩ := h
  exact ⟨p, h1, h2, Nat.le_trans h4 hk, h5, Nat.le_trans h6 hn⟩
theorem Pl.z {k n : Nat} {d : D} (h : Pl k n d) : Pz k n d := by
  obtain ⟨p, h1, h2, h3, h4, h5, h6, h7⟩ := h
  exact ⟨p, pyz_of_py h1, h2, h4, h5, h6⟩
section
variable {QS : Out → Prop} [Still QS] {F : SM}
end
end Mi

set_option Elab.async false
set_option linter.all false
set_option maxRecDepth 100000
set_option maxHeartbeats 4000000
namespace Lw
open PySem PySem.Spec PyProof.Rows L2 Mi

def topS (i : Nat) : Stmt := PySem.Challenge.pw_lacekeys_k51_errors_made.main.body.getD i (.Pass ⟨0, 0, 0, 0⟩)
abbrev slaw_bag : Stmt := topS 22
theorem sclaw_bag : FnScope ["cell"] ["cell"] (defScope slaw_bag) := ⟨rfl, rfl, rfl, by decide +kernel, rfl, by decide +kernel, by decide +kernel⟩
abbrev slaw_classes : Stmt := topS 25
theorem sclaw_classes : FnScope ["one", "found"] ["one"] (defScope slaw_classes) := ⟨rfl, rfl, rfl, by decide +kernel, rfl, by decide +kernel, by decide +kernel⟩
abbrev slaw_made : Stmt := topS 24
theorem sclaw_made : FnScope ["number", "found"] ["number"] (defScope slaw_made) := ⟨rfl, rfl, rfl, by decide +kernel, rfl, by decide +kernel, by decide +kernel⟩
abbrev slaw_pick : Stmt := topS 23
theorem sclaw_pick : FnScope ["bag", "many", "told", "seed", "turn", "first", "second", "drawn"] ["bag", "many"] (defScope slaw_pick) := ⟨rfl, rfl, rfl, by decide +kernel, rfl, by decide +kernel, by decide +kernel⟩
abbrev slaw : Stmt := topS 26
theorem sclaw : FnScope ["script", "bag", "turn", "number", "made", "k", "one", "j", "base", "some"] ["script"] (defScope slaw) := ⟨rfl, rfl, rfl, by decide +kernel, rfl, by decide +kernel, by decide +kernel⟩
abbrev so_InvalidBoxes : Stmt := inClass (topS 3) 0
theorem ox_InvalidBoxes {P : Program} {K : PySem.W.Frag} {C f cda cc N : Addr} {oc kV doc pm ct ccl cl : Value} {od an cdd cld : Option Addr} {osl ccs csl : Array (Option Value)} {vs : Array Value} {file : Str} {tf : Tok}
    {nm q : Str} {bs bm : List Value} {sn : List Str} {sub : List Value} {ab : Bool} {col : Option Bool} {dd : Option Addr} {k0 k1 k2 k3 k5 : Option Value}
    (l : K.lookup f = some ⟨oc, od, .func (PySem.W.ksFn "__init__" "InvalidBoxes.__init__" (defArgs so_InvalidBoxes) (defBody so_InvalidBoxes) (defScope so_InvalidBoxes) .none kV doc pm an (.ref cda) ct cc), osl⟩) (hcd : PySem.W.codeIn K (.ref cda) "InvalidBoxes.__init__" = true)
    (lC : K.lookup C = some (excClassObj nm q C N bs bm true sn sub ab col dd k0 k1 k2 k3 k5 "ValueError.__new__")) (rC : PySem.HandSPX.refsVE bm = true) (sa : PySem.W.findIn K (.ref C) "__setattr__" = some (some (.builtin "object.__setattr__")))
    (rb : PySem.W.subIn K (.ref C) (.type "BaseException") = some true) (rt : PySem.W.typeIn K (.ref C) = some (.type "type")) (kC : PySem.W.keepIn K (.ref C) = true)
    (iC : PySem.W.findIn K (.ref C) "__init__" = some (some (.ref f))) (tI : PySem.W.typeIn K (.ref f) = some (.type "function"))
    (lcd : K.lookup cda = some ⟨ccl, cdd, .fields vs, ccs⟩) (v2 : vs[2]? = some (.str file tf)) (fl : ((P.main.file : Str) == file) = true) (lcc : K.lookup cc = some ⟨cl, cld, .cell (some (.ref C)), csl⟩)
    (up : PySem.W.ks_superIn K C C "__init__" = some (some (.builtin "ValueError.__init__"))) (su : PySem.W.mroIn K C (.ref C) = some true) (ve : PySem.W.subIn K (.ref C) (.type "ValueError") = some true)
    (an0 : PySem.W.nsIn K cStatics "thirdparty.any" = some none) (fr : (P.main.scope.names.lookup ("super" : Str)).isSome = false) (no : PySem.W.findIn K (.ref C) "item" = some none)
    (xa : PySem.W.findIn K (.ref C) "__getattribute__" = some (some (.builtin "BaseException.__getattribute__"))) (xb : PySem.W.findIn K (.ref C) "__getattr__" = some none) (xd : PySem.W.hasDictIn K C = true) :
    Lk.OexF P K C f (PySem.W.ksFn "__init__" "InvalidBoxes.__init__" (defArgs so_InvalidBoxes) (defBody so_InvalidBoxes) (defScope so_InvalidBoxes) .none kV doc pm an (.ref cda) ct cc) "item" "not a valid list of boxes, item: " "item" :=
  have T := Lk.oexC_of lC rC sa rb rt kC
  have G : Lk.OexI P K C cda cc := ⟨T, ⟨_, _, _, _, _, _, lcd, v2, fl⟩, ⟨_, _, _, lcc⟩, up, su, ve, an0, fr⟩
  ⟨T, iC, tI, Binds.all fun us hl => match us, hl with | [_, _], _ => rfl, fun hm => Lk.oex_fn l hcd G no hm rfl rfl (by decide +kernel) rfl rfl rfl rfl (by decide) (by decide) rfl rfl rfl (fun L => ⟨_, rfl⟩), ⟨xa, xb, rb, xd⟩, no⟩
abbrev so_InvalidLoad : Stmt := inClass (topS 2) 0
theorem ox_InvalidLoad {P : Program} {K : PySem.W.Frag} {C f cda cc N : Addr} {oc kV doc pm ct ccl cl : Value} {od an cdd cld : Option Addr} {osl ccs csl : Array (Option Value)} {vs : Array Value} {file : Str} {tf : Tok}
    {nm q : Str} {bs bm : List Value} {sn : List Str} {sub : List Value} {ab : Bool} {col : Option Bool} {dd : Option Addr} {k0 k1 k2 k3 k5 : Option Value}
    (l : K.lookup f = some ⟨oc, od, .func (PySem.W.ksFn "__init__" "InvalidLoad.__init__" (defArgs so_InvalidLoad) (defBody so_InvalidLoad) (defScope so_InvalidLoad) .none kV doc pm an (.ref cda) ct cc), osl⟩) (hcd : PySem.W.codeIn K (.ref cda) "InvalidLoad.__init__" = true)
    (lC : K.lookup C = some (excClassObj nm q C N bs bm true sn sub ab col dd k0 k1 k2 k3 k5 "ValueError.__new__")) (rC : PySem.HandSPX.refsVE bm = true) (sa : PySem.W.findIn K (.ref C) "__setattr__" = some (some (.builtin "object.__setattr__")))
    (rb : PySem.W.subIn K (.ref C) (.type "BaseException") = some true) (rt : PySem.W.typeIn K (.ref C) = some (.type "type")) (kC : PySem.W.keepIn K (.ref C) = true)
    (iC : PySem.W.findIn K (.ref C) "__init__" = some (some (.ref f))) (tI : PySem.W.typeIn K (.ref f) = some (.type "function"))
    (lcd : K.lookup cda = some ⟨ccl, cdd, .fields vs, ccs⟩) (v2 : vs[2]? = some (.str file tf)) (fl : ((P.main.file : Str) == file) = true) (lcc : K.lookup cc = some ⟨cl, cld, .cell (some (.ref C)), csl⟩)
    (up : PySem.W.ks_superIn K C C "__init__" = some (some (.builtin "ValueError.__init__"))) (su : PySem.W.mroIn K C (.ref C) = some true) (ve : PySem.W.subIn K (.ref C) (.type "ValueError") = some true)
    (an0 : PySem.W.nsIn K cStatics "thirdparty.any" = some none) (fr : (P.main.scope.names.lookup ("super" : Str)).isSome = false) (no : PySem.W.findIn K (.ref C) "item" = some none)
    (xa : PySem.W.findIn K (.ref C) "__getattribute__" = some (some (.builtin "BaseException.__getattribute__"))) (xb : PySem.W.findIn K (.ref C) "__getattr__" = some none) (xd : PySem.W.hasDictIn K C = true) :
    Lk.OexF P K C f (PySem.W.ksFn "__init__" "InvalidLoad.__init__" (defArgs so_InvalidLoad) (defBody so_InvalidLoad) (defScope so_InvalidLoad) .none kV doc pm an (.ref cda) ct cc) "item" "not a valid load, item: " "item" :=
  have T := Lk.oexC_of lC rC sa rb rt kC
  have G : Lk.OexI P K C cda cc := ⟨T, ⟨_, _, _, _, _, _, lcd, v2, fl⟩, ⟨_, _, _, lcc⟩, up, su, ve, an0, fr⟩
  ⟨T, iC, tI, Binds.all fun us hl => match us, hl with | [_, _], _ => rfl, fun hm => Lk.oex_fn l hcd G no hm rfl rfl (by decide +kernel) rfl rfl rfl rfl (by decide) (by decide) rfl rfl rfl (fun L => ⟨_, rfl⟩), ⟨xa, xb, rb, xd⟩, no⟩
abbrev so_InvalidText : Stmt := inClass (topS 4) 0
theorem ox_InvalidText {P : Program} {K : PySem.W.Frag} {C f cda cc N : Addr} {oc kV doc pm ct ccl cl : Value} {od an cdd cld : Option Addr} {osl ccs csl : Array (Option Value)} {vs : Array Value} {file : Str} {tf : Tok}
    {nm q : Str} {bs bm : List Value} {sn : List Str} {sub : List Value} {ab : Bool} {col : Option Bool} {dd : Option Addr} {k0 k1 k2 k3 k5 : Option Value}
    (l : K.lookup f = some ⟨oc, od, .func (PySem.W.ksFn "__init__" "InvalidText.__init__" (defArgs so_InvalidText) (defBody so_InvalidText) (defScope so_InvalidText) .none kV doc pm an (.ref cda) ct cc), osl⟩) (hcd : PySem.W.codeIn K (.ref cda) "InvalidText.__init__" = true)
    (lC : K.lookup C = some (excClassObj nm q C N bs bm true sn sub ab col dd k0 k1 k2 k3 k5 "ValueError.__new__")) (rC : PySem.HandSPX.refsVE bm = true) (sa : PySem.W.findIn K (.ref C) "__setattr__" = some (some (.builtin "object.__setattr__")))
    (rb : PySem.W.subIn K (.ref C) (.type "BaseException") = some true) (rt : PySem.W.typeIn K (.ref C) = some (.type "type")) (kC : PySem.W.keepIn K (.ref C) = true)
    (iC : PySem.W.findIn K (.ref C) "__init__" = some (some (.ref f))) (tI : PySem.W.typeIn K (.ref f) = some (.type "function"))
    (lcd : K.lookup cda = some ⟨ccl, cdd, .fields vs, ccs⟩) (v2 : vs[2]? = some (.str file tf)) (fl : ((P.main.file : Str) == file) = true) (lcc : K.lookup cc = some ⟨cl, cld, .cell (some (.ref C)), csl⟩)
    (up : PySem.W.ks_superIn K C C "__init__" = some (some (.builtin "ValueError.__init__"))) (su : PySem.W.mroIn K C (.ref C) = some true) (ve : PySem.W.subIn K (.ref C) (.type "ValueError") = some true)
    (an0 : PySem.W.nsIn K cStatics "thirdparty.any" = some none) (fr : (P.main.scope.names.lookup ("super" : Str)).isSome = false) (no : PySem.W.findIn K (.ref C) "part" = some none)
    (xa : PySem.W.findIn K (.ref C) "__getattribute__" = some (some (.builtin "BaseException.__getattribute__"))) (xb : PySem.W.findIn K (.ref C) "__getattr__" = some none) (xd : PySem.W.hasDictIn K C = true) :
    Lk.OexF P K C f (PySem.W.ksFn "__init__" "InvalidText.__init__" (defArgs so_InvalidText) (defBody so_InvalidText) (defScope so_InvalidText) .none kV doc pm an (.ref cda) ct cc) "part" "not the text of a load, part: " "part" :=
  have T := Lk.oexC_of lC rC sa rb rt kC
  have G : Lk.OexI P K C cda cc := ⟨T, ⟨_, _, _, _, _, _, lcd, v2, fl⟩, ⟨_, _, _, lcc⟩, up, su, ve, an0, fr⟩
  ⟨T, iC, tI, Binds.all fun us hl => match us, hl with | [_, _], _ => rfl, fun hm => Lk.oex_fn l hcd G no hm rfl rfl (by decide +kernel) rfl rfl rfl rfl (by decide) (by decide) rfl rfl rfl (fun L => ⟨_, rfl⟩), ⟨xa, xb, rb, xd⟩, no⟩
abbrev so_OverBudget : Stmt := inClass (topS 6) 0
theorem ox_OverBudget {P : Program} {K : PySem.W.Frag} {C f cda cc N : Addr} {oc kV doc pm ct ccl cl : Value} {od an cdd cld : Option Addr} {osl ccs csl : Array (Option Value)} {vs : Array Value} {file : Str} {tf : Tok}
    {nm q : Str} {bs bm : List Value} {sn : List Str} {sub : List Value} {ab : Bool} {col : Option Bool} {dd : Option Addr} {k0 k1 k2 k3 k5 : Option Value}
    (l : K.lookup f = some ⟨oc, od, .func (PySem.W.ksFn "__init__" "OverBudget.__init__" (defArgs so_OverBudget) (defBody so_OverBudget) (defScope so_OverBudget) .none kV doc pm an (.ref cda) ct cc), osl⟩) (hcd : PySem.W.codeIn K (.ref cda) "OverBudget.__init__" = true)
    (lC : K.lookup C = some (excClassObj nm q C N bs bm true sn sub ab col dd k0 k1 k2 k3 k5 "ValueError.__new__")) (rC : PySem.HandSPX.refsVE bm = true) (sa : PySem.W.findIn K (.ref C) "__setattr__" = some (some (.builtin "object.__setattr__")))
    (rb : PySem.W.subIn K (.ref C) (.type "BaseException") = some true) (rt : PySem.W.typeIn K (.ref C) = some (.type "type")) (kC : PySem.W.keepIn K (.ref C) = true)
    (iC : PySem.W.findIn K (.ref C) "__init__" = some (some (.ref f))) (tI : PySem.W.typeIn K (.ref f) = some (.type "function"))
    (lcd : K.lookup cda = some ⟨ccl, cdd, .fields vs, ccs⟩) (v2 : vs[2]? = some (.str file tf)) (fl : ((P.main.file : Str) == file) = true) (lcc : K.lookup cc = some ⟨cl, cld, .cell (some (.ref C)), csl⟩)
    (up : PySem.W.ks_superIn K C C "__init__" = some (some (.builtin "ValueError.__init__"))) (su : PySem.W.mroIn K C (.ref C) = some true) (ve : PySem.W.subIn K (.ref C) (.type "ValueError") = some true)
    (an0 : PySem.W.nsIn K cStatics "thirdparty.any" = some none) (fr : (P.main.scope.names.lookup ("super" : Str)).isSome = false) (no : PySem.W.findIn K (.ref C) "total" = some none)
    (xa : PySem.W.findIn K (.ref C) "__getattribute__" = some (some (.builtin "BaseException.__getattribute__"))) (xb : PySem.W.findIn K (.ref C) "__getattr__" = some none) (xd : PySem.W.hasDictIn K C = true) :
    Lk.OexF P K C f (PySem.W.ksFn "__init__" "OverBudget.__init__" (defArgs so_OverBudget) (defBody so_OverBudget) (defScope so_OverBudget) .none kV doc pm an (.ref cda) ct cc) "total" "above the budget, runs: " "total" :=
  have T := Lk.oexC_of lC rC sa rb rt kC
  have G : Lk.OexI P K C cda cc := ⟨T, ⟨_, _, _, _, _, _, lcd, v2, fl⟩, ⟨_, _, _, lcc⟩, up, su, ve, an0, fr⟩
  ⟨T, iC, tI, Binds.all fun us hl => match us, hl with | [_, _], _ => rfl, fun hm => Lk.oex_fn l hcd G no hm rfl rfl (by decide +kernel) rfl rfl rfl rfl (by decide) (by decide) rfl rfl rfl (fun L => ⟨_, rfl⟩), ⟨xa, xb, rb, xd⟩, no⟩
abbrev so_TooMany : Stmt := inClass (topS 5) 0
theorem ox_TooMany {P : Program} {K : PySem.W.Frag} {C f cda cc N : Addr} {oc kV doc pm ct ccl cl : Value} {od an cdd cld : Option Addr} {osl ccs csl : Array (Option Value)} {vs : Array Value} {file : Str} {tf : Tok}
    {nm q : Str} {bs bm : List Value} {sn : List Str} {sub : List Value} {ab : Bool} {col : Option Bool} {dd : Option Addr} {k0 k1 k2 k3 k5 : Option Value}
    (l : K.lookup f = some ⟨oc, od, .func (PySem.W.ksFn "__init__" "TooMany.__init__" (defArgs so_TooMany) (defBody so_TooMany) (defScope so_TooMany) .none kV doc pm an (.ref cda) ct cc), osl⟩) (hcd : PySem.W.codeIn K (.ref cda) "TooMany.__init__" = true)
    (lC : K.lookup C = some (excClassObj nm q C N bs bm true sn sub ab col dd k0 k1 k2 k3 k5 "ValueError.__new__")) (rC : PySem.HandSPX.refsVE bm = true) (sa : PySem.W.findIn K (.ref C) "__setattr__" = some (some (.builtin "object.__setattr__")))
    (rb : PySem.W.subIn K (.ref C) (.type "BaseException") = some true) (rt : PySem.W.typeIn K (.ref C) = some (.type "type")) (kC : PySem.W.keepIn K (.ref C) = true)
    (iC : PySem.W.findIn K (.ref C) "__init__" = some (some (.ref f))) (tI : PySem.W.typeIn K (.ref f) = some (.type "function"))
    (lcd : K.lookup cda = some ⟨ccl, cdd, .fields vs, ccs⟩) (v2 : vs[2]? = some (.str file tf)) (fl : ((P.main.file : Str) == file) = true) (lcc : K.lookup cc = some ⟨cl, cld, .cell (some (.ref C)), csl⟩)
    (up : PySem.W.ks_superIn K C C "__init__" = some (some (.builtin "ValueError.__init__"))) (su : PySem.W.mroIn K C (.ref C) = some true) (ve : PySem.W.subIn K (.ref C) (.type "ValueError") = some true)
    (an0 : PySem.W.nsIn K cStatics "thirdparty.any" = some none) (fr : (P.main.scope.names.lookup ("super" : Str)).isSome = false) (no : PySem.W.findIn K (.ref C) "limit" = some none)
    (xa : PySem.W.findIn K (.ref C) "__getattribute__" = some (some (.builtin "BaseException.__getattribute__"))) (xb : PySem.W.findIn K (.ref C) "__getattr__" = some none) (xd : PySem.W.hasDictIn K C = true) :
    Lk.OexF P K C f (PySem.W.ksFn "__init__" "TooMany.__init__" (defArgs so_TooMany) (defBody so_TooMany) (defScope so_TooMany) .none kV doc pm an (.ref cda) ct cc) "limit" "no more items than " "limit" :=
  have T := Lk.oexC_of lC rC sa rb rt kC
  have G : Lk.OexI P K C cda cc := ⟨T, ⟨_, _, _, _, _, _, lcd, v2, fl⟩, ⟨_, _, _, lcc⟩, up, su, ve, an0, fr⟩
  ⟨T, iC, tI, Binds.all fun us hl => match us, hl with | [_, _], _ => rfl, fun hm => Lk.oex_fn l hcd G no hm rfl rfl (by decide +kernel) rfl rfl rfl rfl (by decide) (by decide) rfl rfl rfl (fun L => ⟨_, rfl⟩), ⟨xa, xb, rb, xd⟩, no⟩
structure Ads where
  C_InvalidBits : Addr
  C_InvalidBox : Addr
  C_InvalidBoxes : Addr
  C_InvalidBudget : Addr
  C_InvalidCell : Addr
  C_InvalidCommand : Addr
  C_InvalidIndex : Addr
  C_InvalidKey : Addr
  C_InvalidLayout : Addr
  C_InvalidLoad : Addr
  C_InvalidNumber : Addr
  C_InvalidOperation : Addr
  C_InvalidSize : Addr
  C_InvalidText : Addr
  C_InvalidWord : Addr
  C_LaceError : Addr
  C_Nothing : Addr
  C_OverBudget : Addr
  C_TooMany : Addr
  C_UnlikeGrids : Addr
  f_law_bag : Addr
  d_law_bag : FuncData
  f_law_classes : Addr
  d_law_classes : FuncData
  f_law_made : Addr
  d_law_made : FuncData
  f_law_pick : Addr
  d_law_pick : FuncData
  f_law : Addr
  d_law : FuncData
  fo_InvalidBoxes : Addr
  do_InvalidBoxes : FuncData
  fo_InvalidLoad : Addr
  do_InvalidLoad : FuncData
  fo_InvalidText : Addr
  do_InvalidText : FuncData
  fo_OverBudget : Addr
  do_OverBudget : FuncData
  fo_TooMany : Addr
  do_TooMany : FuncData
  P_ : Program
structure Top (K : PySem.W.Frag) (mg : Str → Option Value) (Z : Ads) : Prop where
  F_law_bag : Fun K "_law_bag" "_law_bag" slaw_bag Z.f_law_bag Z.d_law_bag
  b_law_bag : Binds K Z.d_law_bag ["cell"] []
  m_law_bag : mg "_law_bag" = some (.ref Z.f_law_bag)
  F_law_classes : Fun K "_law_classes" "_law_classes" slaw_classes Z.f_law_classes Z.d_law_classes
  b_law_classes : Binds K Z.d_law_classes ["one"] []
  m_law_classes : mg "_law_classes" = some (.ref Z.f_law_classes)
  F_law_made : Fun K "_law_made" "_law_made" slaw_made Z.f_law_made Z.d_law_made
  b_law_made : Binds K Z.d_law_made ["number"] []
  m_law_made : mg "_law_made" = some (.ref Z.f_law_made)
  F_law_pick : Fun K "_law_pick" "_law_pick" slaw_pick Z.f_law_pick Z.d_law_pick
  b_law_pick : Binds K Z.d_law_pick ["bag", "many"] []
  m_law_pick : mg "_law_pick" = some (.ref Z.f_law_pick)
  F_law : Fun K "law" "law" slaw Z.f_law Z.d_law
  b_law : Binds K Z.d_law ["script"] []
  m_law : mg "law" = some (.ref Z.f_law)
  m_InvalidBits : mg "InvalidBits" = some (.ref Z.C_InvalidBits)
  m_InvalidBox : mg "InvalidBox" = some (.ref Z.C_InvalidBox)
  m_InvalidBoxes : mg "InvalidBoxes" = some (.ref Z.C_InvalidBoxes)
  m_InvalidBudget : mg "InvalidBudget" = some (.ref Z.C_InvalidBudget)
  m_InvalidCell : mg "InvalidCell" = some (.ref Z.C_InvalidCell)
  m_InvalidCommand : mg "InvalidCommand" = some (.ref Z.C_InvalidCommand)
  m_InvalidIndex : mg "InvalidIndex" = some (.ref Z.C_InvalidIndex)
  m_InvalidKey : mg "InvalidKey" = some (.ref Z.C_InvalidKey)
  m_InvalidLayout : mg "InvalidLayout" = some (.ref Z.C_InvalidLayout)
  m_InvalidLoad : mg "InvalidLoad" = some (.ref Z.C_InvalidLoad)
  m_InvalidNumber : mg "InvalidNumber" = some (.ref Z.C_InvalidNumber)
  m_InvalidOperation : mg "InvalidOperation" = some (.ref Z.C_InvalidOperation)
  m_InvalidSize : mg "InvalidSize" = some (.ref Z.C_InvalidSize)
  m_InvalidText : mg "InvalidText" = some (.ref Z.C_InvalidText)
  m_InvalidWord : mg "InvalidWord" = some (.ref Z.C_InvalidWord)
  m_LaceError : mg "LaceError" = some (.ref Z.C_LaceError)
  m_Nothing : mg "Nothing" = some (.ref Z.C_Nothing)
  m_OverBudget : mg "OverBudget" = some (.ref Z.C_OverBudget)
  m_TooMany : mg "TooMany" = some (.ref Z.C_TooMany)
  m_UnlikeGrids : mg "UnlikeGrids" = some (.ref Z.C_UnlikeGrids)
  x_InvalidBits : PySem.W.excIn K Z.C_InvalidBits [.type "ValueError", .type "Exception", .type "BaseException", .type "object"] "ValueError.__new__" = true
  k_InvalidBits : PySem.W.keepIn K (.ref Z.C_InvalidBits) = true
  rb_InvalidBits : PySem.W.subIn K (.ref Z.C_InvalidBits) (.type "BaseException") = some true
  rt_InvalidBits : PySem.W.typeIn K (.ref Z.C_InvalidBits) = some (.type "type")
  ea_InvalidBits : PySem.W.findIn K (.ref Z.C_InvalidBits) "__getattribute__" = some (some (.builtin "BaseException.__getattribute__"))
  eb_InvalidBits : PySem.W.findIn K (.ref Z.C_InvalidBits) "__getattr__" = some none
  ec_InvalidBits : PySem.W.hasDictIn K Z.C_InvalidBits = true
  ed_InvalidBits : PySem.W.findIn K (.ref Z.C_InvalidBits) "__class__" = some (some (.builtin "object.__class__"))
  ee_InvalidBits : PySem.W.mroIn K Z.C_InvalidBits (.type "object") = some true
  x_InvalidBox : PySem.W.excIn K Z.C_InvalidBox [.type "ValueError", .type "Exception", .type "BaseException", .type "object"] "ValueError.__new__" = true
  k_InvalidBox : PySem.W.keepIn K (.ref Z.C_InvalidBox) = true
  rb_InvalidBox : PySem.W.subIn K (.ref Z.C_InvalidBox) (.type "BaseException") = some true
  rt_InvalidBox : PySem.W.typeIn K (.ref Z.C_InvalidBox) = some (.type "type")
  ea_InvalidBox : PySem.W.findIn K (.ref Z.C_InvalidBox) "__getattribute__" = some (some (.builtin "BaseException.__getattribute__"))
  eb_InvalidBox : PySem.W.findIn K (.ref Z.C_InvalidBox) "__getattr__" = some none
  ec_InvalidBox : PySem.W.hasDictIn K Z.C_InvalidBox = true
  ed_InvalidBox : PySem.W.findIn K (.ref Z.C_InvalidBox) "__class__" = some (some (.builtin "object.__class__"))
  ee_InvalidBox : PySem.W.mroIn K Z.C_InvalidBox (.type "object") = some true
  k_InvalidBoxes : PySem.W.keepIn K (.ref Z.C_InvalidBoxes) = true
  rb_InvalidBoxes : PySem.W.subIn K (.ref Z.C_InvalidBoxes) (.type "BaseException") = some true
  rt_InvalidBoxes : PySem.W.typeIn K (.ref Z.C_InvalidBoxes) = some (.type "type")
  ea_InvalidBoxes : PySem.W.findIn K (.ref Z.C_InvalidBoxes) "__getattribute__" = some (some (.builtin "BaseException.__getattribute__"))
  eb_InvalidBoxes : PySem.W.findIn K (.ref Z.C_InvalidBoxes) "__getattr__" = some none
  ec_InvalidBoxes : PySem.W.hasDictIn K Z.C_InvalidBoxes = true
  ed_InvalidBoxes : PySem.W.findIn K (.ref Z.C_InvalidBoxes) "__class__" = some (some (.builtin "object.__class__"))
  ee_InvalidBoxes : PySem.W.mroIn K Z.C_InvalidBoxes (.type "object") = some true
  x_InvalidBudget : PySem.W.excIn K Z.C_InvalidBudget [.type "ValueError", .type "Exception", .type "BaseException", .type "object"] "ValueError.__new__" = true
  k_InvalidBudget : PySem.W.keepIn K (.ref Z.C_InvalidBudget) = true
  rb_InvalidBudget : PySem.W.subIn K (.ref Z.C_InvalidBudget) (.type "BaseException") = some true
  rt_InvalidBudget : PySem.W.typeIn K (.ref Z.C_InvalidBudget) = some (.type "type")
  ea_InvalidBudget : PySem.W.findIn K (.ref Z.C_InvalidBudget) "__getattribute__" = some (some (.builtin "BaseException.__getattribute__"))
  eb_InvalidBudget : PySem.W.findIn K (.ref Z.C_InvalidBudget) "__getattr__" = some none
  ec_InvalidBudget : PySem.W.hasDictIn K Z.C_InvalidBudget = true
  ed_InvalidBudget : PySem.W.findIn K (.ref Z.C_InvalidBudget) "__class__" = some (some (.builtin "object.__class__"))
  ee_InvalidBudget : PySem.W.mroIn K Z.C_InvalidBudget (.type "object") = some true
  x_InvalidCell : PySem.W.excIn K Z.C_InvalidCell [.type "ValueError", .type "Exception", .type "BaseException", .type "object"] "ValueError.__new__" = true
  k_InvalidCell : PySem.W.keepIn K (.ref Z.C_InvalidCell) = true
  rb_InvalidCell : PySem.W.subIn K (.ref Z.C_InvalidCell) (.type "BaseException") = some true
  rt_InvalidCell : PySem.W.typeIn K (.ref Z.C_InvalidCell) = some (.type "type")
  ea_InvalidCell : PySem.W.findIn K (.ref Z.C_InvalidCell) "__getattribute__" = some (some (.builtin "BaseException.__getattribute__"))
  eb_InvalidCell : PySem.W.findIn K (.ref Z.C_InvalidCell) "__getattr__" = some none
  ec_InvalidCell : PySem.W.hasDictIn K Z.C_InvalidCell = true
  ed_InvalidCell : PySem.W.findIn K (.ref Z.C_InvalidCell) "__class__" = some (some (.builtin "object.__class__"))
  ee_InvalidCell : PySem.W.mroIn K Z.C_InvalidCell (.type "object") = some true
  x_InvalidCommand : PySem.W.excIn K Z.C_InvalidCommand [.type "ValueError", .type "Exception", .type "BaseException", .type "object"] "ValueError.__new__" = true
  k_InvalidCommand : PySem.W.keepIn K (.ref Z.C_InvalidCommand) = true
  rb_InvalidCommand : PySem.W.subIn K (.ref Z.C_InvalidCommand) (.type "BaseException") = some true
  rt_InvalidCommand : PySem.W.typeIn K (.ref Z.C_InvalidCommand) = some (.type "type")
  ea_InvalidCommand : PySem.W.findIn K (.ref Z.C_InvalidCommand) "__getattribute__" = some (some (.builtin "BaseException.__getattribute__"))
  eb_InvalidCommand : PySem.W.findIn K (.ref Z.C_InvalidCommand) "__getattr__" = some none
  ec_InvalidCommand : PySem.W.hasDictIn K Z.C_InvalidCommand = true
  ed_InvalidCommand : PySem.W.findIn K (.ref Z.C_InvalidCommand) "__class__" = some (some (.builtin "object.__class__"))
  ee_InvalidCommand : PySem.W.mroIn K Z.C_InvalidCommand (.type "object") = some true
  x_InvalidIndex : PySem.W.excIn K Z.C_InvalidIndex [.type "ValueError", .type "Exception", .type "BaseException", .type "object"] "ValueError.__new__" = true
  k_InvalidIndex : PySem.W.keepIn K (.ref Z.C_InvalidIndex) = true
  rb_InvalidIndex : PySem.W.subIn K (.ref Z.C_InvalidIndex) (.type "BaseException") = some true
  rt_InvalidIndex : PySem.W.typeIn K (.ref Z.C_InvalidIndex) = some (.type "type")
  ea_InvalidIndex : PySem.W.findIn K (.ref Z.C_InvalidIndex) "__getattribute__" = some (some (.builtin "BaseException.__getattribute__"))
  eb_InvalidIndex : PySem.W.findIn K (.ref Z.C_InvalidIndex) "__getattr__" = some none
  ec_InvalidIndex : PySem.W.hasDictIn K Z.C_InvalidIndex = true
  ed_InvalidIndex : PySem.W.findIn K (.ref Z.C_InvalidIndex) "__class__" = some (some (.builtin "object.__class__"))
  ee_InvalidIndex : PySem.W.mroIn K Z.C_InvalidIndex (.type "object") = some true
  x_InvalidKey : PySem.W.excIn K Z.C_InvalidKey [.type "ValueError", .type "Exception", .type "BaseException", .type "object"] "ValueError.__new__" = true
  k_InvalidKey : PySem.W.keepIn K (.ref Z.C_InvalidKey) = true
  rb_InvalidKey : PySem.W.subIn K (.ref Z.C_InvalidKey) (.type "BaseException") = some true
  rt_InvalidKey : PySem.W.typeIn K (.ref Z.C_InvalidKey) = some (.type "type")
  ea_InvalidKey : PySem.W.findIn K (.ref Z.C_InvalidKey) "__getattribute__" = some (some (.builtin "BaseException.__getattribute__"))
  eb_InvalidKey : PySem.W.findIn K (.ref Z.C_InvalidKey) "__getattr__" = some none
  ec_InvalidKey : PySem.W.hasDictIn K Z.C_InvalidKey = true
  ed_InvalidKey : PySem.W.findIn K (.ref Z.C_InvalidKey) "__class__" = some (some (.builtin "object.__class__"))
  ee_InvalidKey : PySem.W.mroIn K Z.C_InvalidKey (.type "object") = some true
  x_InvalidLayout : PySem.W.excIn K Z.C_InvalidLayout [.type "ValueError", .type "Exception", .type "BaseException", .type "object"] "ValueError.__new__" = true
  k_InvalidLayout : PySem.W.keepIn K (.ref Z.C_InvalidLayout) = true
  rb_InvalidLayout : PySem.W.subIn K (.ref Z.C_InvalidLayout) (.type "BaseException") = some true
  rt_InvalidLayout : PySem.W.typeIn K (.ref Z.C_InvalidLayout) = some (.type "type")
  ea_InvalidLayout : PySem.W.findIn K (.ref Z.C_InvalidLayout) "__getattribute__" = some (some (.builtin "BaseException.__getattribute__"))
  eb_InvalidLayout : PySem.W.findIn K (.ref Z.C_InvalidLayout) "__getattr__" = some none
  ec_InvalidLayout : PySem.W.hasDictIn K Z.C_InvalidLayout = true
  ed_InvalidLayout : PySem.W.findIn K (.ref Z.C_InvalidLayout) "__class__" = some (some (.builtin "object.__class__"))
  ee_InvalidLayout : PySem.W.mroIn K Z.C_InvalidLayout (.type "object") = some true
  k_InvalidLoad : PySem.W.keepIn K (.ref Z.C_InvalidLoad) = true
  rb_InvalidLoad : PySem.W.subIn K (.ref Z.C_InvalidLoad) (.type "BaseException") = some true
  rt_InvalidLoad : PySem.W.typeIn K (.ref Z.C_InvalidLoad) = some (.type "type")
  ea_InvalidLoad : PySem.W.findIn K (.ref Z.C_InvalidLoad) "__getattribute__" = some (some (.builtin "BaseException.__getattribute__"))
  eb_InvalidLoad : PySem.W.findIn K (.ref Z.C_InvalidLoad) "__getattr__" = some none
  ec_InvalidLoad : PySem.W.hasDictIn K Z.C_InvalidLoad = true
  ed_InvalidLoad : PySem.W.findIn K (.ref Z.C_InvalidLoad) "__class__" = some (some (.builtin "object.__class__"))
  ee_InvalidLoad : PySem.W.mroIn K Z.C_InvalidLoad (.type "object") = some true
  x_InvalidNumber : PySem.W.excIn K Z.C_InvalidNumber [.type "ValueError", .type "Exception", .type "BaseException", .type "object"] "ValueError.__new__" = true
  k_InvalidNumber : PySem.W.keepIn K (.ref Z.C_InvalidNumber) = true
  rb_InvalidNumber : PySem.W.subIn K (.ref Z.C_InvalidNumber) (.type "BaseException") = some true
  rt_InvalidNumber : PySem.W.typeIn K (.ref Z.C_InvalidNumber) = some (.type "type")
  ea_InvalidNumber : PySem.W.findIn K (.ref Z.C_InvalidNumber) "__getattribute__" = some (some (.builtin "BaseException.__getattribute__"))
  eb_InvalidNumber : PySem.W.findIn K (.ref Z.C_InvalidNumber) "__getattr__" = some none
  ec_InvalidNumber : PySem.W.hasDictIn K Z.C_InvalidNumber = true
  ed_InvalidNumber : PySem.W.findIn K (.ref Z.C_InvalidNumber) "__class__" = some (some (.builtin "object.__class__"))
  ee_InvalidNumber : PySem.W.mroIn K Z.C_InvalidNumber (.type "object") = some true
  x_InvalidOperation : PySem.W.excIn K Z.C_InvalidOperation [.type "ValueError", .type "Exception", .type "BaseException", .type "object"] "ValueError.__new__" = true
  k_InvalidOperation : PySem.W.keepIn K (.ref Z.C_InvalidOperation) = true
  rb_InvalidOperation : PySem.W.subIn K (.ref Z.C_InvalidOperation) (.type "BaseException") = some true
  rt_InvalidOperation : PySem.W.typeIn K (.ref Z.C_InvalidOperation) = some (.type "type")
  ea_InvalidOperation : PySem.W.findIn K (.ref Z.C_InvalidOperation) "__getattribute__" = some (some (.builtin "BaseException.__getattribute__"))
  eb_InvalidOperation : PySem.W.findIn K (.ref Z.C_InvalidOperation) "__getattr__" = some none
  ec_InvalidOperation : PySem.W.hasDictIn K Z.C_InvalidOperation = true
  ed_InvalidOperation : PySem.W.findIn K (.ref Z.C_InvalidOperation) "__class__" = some (some (.builtin "object.__class__"))
  ee_InvalidOperation : PySem.W.mroIn K Z.C_InvalidOperation (.type "object") = some true
  x_InvalidSize : PySem.W.excIn K Z.C_InvalidSize [.type "ValueError", .type "Exception", .type "BaseException", .type "object"] "ValueError.__new__" = true
  k_InvalidSize : PySem.W.keepIn K (.ref Z.C_InvalidSize) = true
  rb_InvalidSize : PySem.W.subIn K (.ref Z.C_InvalidSize) (.type "BaseException") = some true
  rt_InvalidSize : PySem.W.typeIn K (.ref Z.C_InvalidSize) = some (.type "type")
  ea_InvalidSize : PySem.W.findIn K (.ref Z.C_InvalidSize) "__getattribute__" = some (some (.builtin "BaseException.__getattribute__"))
  eb_InvalidSize : PySem.W.findIn K (.ref Z.C_InvalidSize) "__getattr__" = some none
  ec_InvalidSize : PySem.W.hasDictIn K Z.C_InvalidSize = true
  ed_InvalidSize : PySem.W.findIn K (.ref Z.C_InvalidSize) "__class__" = some (some (.builtin "object.__class__"))
  ee_InvalidSize : PySem.W.mroIn K Z.C_InvalidSize (.type "object") = some true
  k_InvalidText : PySem.W.keepIn K (.ref Z.C_InvalidText) = true
  rb_InvalidText : PySem.W.subIn K (.ref Z.C_InvalidText) (.type "BaseException") = some true
  rt_InvalidText : PySem.W.typeIn K (.ref Z.C_InvalidText) = some (.type "type")
  ea_InvalidText : PySem.W.findIn K (.ref Z.C_InvalidText) "__getattribute__" = some (some (.builtin "BaseException.__getattribute__"))
  eb_InvalidText : PySem.W.findIn K (.ref Z.C_InvalidText) "__getattr__" = some none
  ec_InvalidText : PySem.W.hasDictIn K Z.C_InvalidText = true
  ed_InvalidText : PySem.W.findIn K (.ref Z.C_InvalidText) "__class__" = some (some (.builtin "object.__class__"))
  ee_InvalidText : PySem.W.mroIn K Z.C_InvalidText (.type "object") = some true
  x_InvalidWord : PySem.W.excIn K Z.C_InvalidWord [.type "ValueError", .type "Exception", .type "BaseException", .type "object"] "ValueError.__new__" = true
  k_InvalidWord : PySem.W.keepIn K (.ref Z.C_InvalidWord) = true
  rb_InvalidWord : PySem.W.subIn K (.ref Z.C_InvalidWord) (.type "BaseException") = some true
  rt_InvalidWord : PySem.W.typeIn K (.ref Z.C_InvalidWord) = some (.type "type")
  ea_InvalidWord : PySem.W.findIn K (.ref Z.C_InvalidWord) "__getattribute__" = some (some (.builtin "BaseException.__getattribute__"))
  eb_InvalidWord : PySem.W.findIn K (.ref Z.C_InvalidWord) "__getattr__" = some none
  ec_InvalidWord : PySem.W.hasDictIn K Z.C_InvalidWord = true
  ed_InvalidWord : PySem.W.findIn K (.ref Z.C_InvalidWord) "__class__" = some (some (.builtin "object.__class__"))
  ee_InvalidWord : PySem.W.mroIn K Z.C_InvalidWord (.type "object") = some true
  x_LaceError : PySem.W.excIn K Z.C_LaceError [.type "ValueError", .type "Exception", .type "BaseException", .type "object"] "ValueError.__new__" = true
  k_LaceError : PySem.W.keepIn K (.ref Z.C_LaceError) = true
  rb_LaceError : PySem.W.subIn K (.ref Z.C_LaceError) (.type "BaseException") = some true
  rt_LaceError : PySem.W.typeIn K (.ref Z.C_LaceError) = some (.type "type")
  ea_LaceError : PySem.W.findIn K (.ref Z.C_LaceError) "__getattribute__" = some (some (.builtin "BaseException.__getattribute__"))
  eb_LaceError : PySem.W.findIn K (.ref Z.C_LaceError) "__getattr__" = some none
  ec_LaceError : PySem.W.hasDictIn K Z.C_LaceError = true
  ed_LaceError : PySem.W.findIn K (.ref Z.C_LaceError) "__class__" = some (some (.builtin "object.__class__"))
  ee_LaceError : PySem.W.mroIn K Z.C_LaceError (.type "object") = some true
  x_Nothing : PySem.W.excIn K Z.C_Nothing [.type "ValueError", .type "Exception", .type "BaseException", .type "object"] "ValueError.__new__" = true
  k_Nothing : PySem.W.keepIn K (.ref Z.C_Nothing) = true
  rb_Nothing : PySem.W.subIn K (.ref Z.C_Nothing) (.type "BaseException") = some true
  rt_Nothing : PySem.W.typeIn K (.ref Z.C_Nothing) = some (.type "type")
  ea_Nothing : PySem.W.findIn K (.ref Z.C_Nothing) "__getattribute__" = some (some (.builtin "BaseException.__getattribute__"))
  eb_Nothing : PySem.W.findIn K (.ref Z.C_Nothing) "__getattr__" = some none
  ec_Nothing : PySem.W.hasDictIn K Z.C_Nothing = true
  ed_Nothing : PySem.W.findIn K (.ref Z.C_Nothing) "__class__" = some (some (.builtin "object.__class__"))
  ee_Nothing : PySem.W.mroIn K Z.C_Nothing (.type "object") = some true
  k_OverBudget : PySem.W.keepIn K (.ref Z.C_OverBudget) = true
  rb_OverBudget : PySem.W.subIn K (.ref Z.C_OverBudget) (.type "BaseException") = some true
  rt_OverBudget : PySem.W.typeIn K (.ref Z.C_OverBudget) = some (.type "type")
  ea_OverBudget : PySem.W.findIn K (.ref Z.C_OverBudget) "__getattribute__" = some (some (.builtin "BaseException.__getattribute__"))
  eb_OverBudget : PySem.W.findIn K (.ref Z.C_OverBudget) "__getattr__" = some none
  ec_OverBudget : PySem.W.hasDictIn K Z.C_OverBudget = true
  ed_OverBudget : PySem.W.findIn K (.ref Z.C_OverBudget) "__class__" = some (some (.builtin "object.__class__"))
  ee_OverBudget : PySem.W.mroIn K Z.C_OverBudget (.type "object") = some true
  k_TooMany : PySem.W.keepIn K (.ref Z.C_TooMany) = true
  rb_TooMany : PySem.W.subIn K (.ref Z.C_TooMany) (.type "BaseException") = some true
  rt_TooMany : PySem.W.typeIn K (.ref Z.C_TooMany) = some (.type "type")
  ea_TooMany : PySem.W.findIn K (.ref Z.C_TooMany) "__getattribute__" = some (some (.builtin "BaseException.__getattribute__"))
  eb_TooMany : PySem.W.findIn K (.ref Z.C_TooMany) "__getattr__" = some none
  ec_TooMany : PySem.W.hasDictIn K Z.C_TooMany = true
  ed_TooMany : PySem.W.findIn K (.ref Z.C_TooMany) "__class__" = some (some (.builtin "object.__class__"))
  ee_TooMany : PySem.W.mroIn K Z.C_TooMany (.type "object") = some true
  x_UnlikeGrids : PySem.W.excIn K Z.C_UnlikeGrids [.type "ValueError", .type "Exception", .type "BaseException", .type "object"] "ValueError.__new__" = true
  k_UnlikeGrids : PySem.W.keepIn K (.ref Z.C_UnlikeGrids) = true
  rb_UnlikeGrids : PySem.W.subIn K (.ref Z.C_UnlikeGrids) (.type "BaseException") = some true
  rt_UnlikeGrids : PySem.W.typeIn K (.ref Z.C_UnlikeGrids) = some (.type "type")
  ea_UnlikeGrids : PySem.W.findIn K (.ref Z.C_UnlikeGrids) "__getattribute__" = some (some (.builtin "BaseException.__getattribute__"))
  eb_UnlikeGrids : PySem.W.findIn K (.ref Z.C_UnlikeGrids) "__getattr__" = some none
  ec_UnlikeGrids : PySem.W.hasDictIn K Z.C_UnlikeGrids = true
  ed_UnlikeGrids : PySem.W.findIn K (.ref Z.C_UnlikeGrids) "__class__" = some (some (.builtin "object.__class__"))
  ee_UnlikeGrids : PySem.W.mroIn K Z.C_UnlikeGrids (.type "object") = some true
  e_get : PySem.W.specialIn K (.builtin "object.__class__") "__get__" = some (some (.builtin "getset_descriptor.__get__"))
  e_tak : PySem.W.takesIn K (.builtin "object.__class__") = some true
  qm_InvalidBox_InvalidBits : PySem.W.mroIn K Z.C_InvalidBox (.ref Z.C_InvalidBits) = some false
  qm_InvalidBoxes_InvalidBits : PySem.W.mroIn K Z.C_InvalidBoxes (.ref Z.C_InvalidBits) = some false
  qm_InvalidBudget_InvalidBits : PySem.W.mroIn K Z.C_InvalidBudget (.ref Z.C_InvalidBits) = some false
  qm_InvalidCell_InvalidBits : PySem.W.mroIn K Z.C_InvalidCell (.ref Z.C_InvalidBits) = some false
  qm_InvalidCommand_InvalidBits : PySem.W.mroIn K Z.C_InvalidCommand (.ref Z.C_InvalidBits) = some false
  qm_InvalidIndex_InvalidBits : PySem.W.mroIn K Z.C_InvalidIndex (.ref Z.C_InvalidBits) = some false
  qm_InvalidKey_InvalidBits : PySem.W.mroIn K Z.C_InvalidKey (.ref Z.C_InvalidBits) = some false
  qm_InvalidLayout_InvalidBits : PySem.W.mroIn K Z.C_InvalidLayout (.ref Z.C_InvalidBits) = some false
  qm_InvalidLoad_InvalidBits : PySem.W.mroIn K Z.C_InvalidLoad (.ref Z.C_InvalidBits) = some false
  qm_InvalidNumber_InvalidBits : PySem.W.mroIn K Z.C_InvalidNumber (.ref Z.C_InvalidBits) = some false
  qm_InvalidOperation_InvalidBits : PySem.W.mroIn K Z.C_InvalidOperation (.ref Z.C_InvalidBits) = some false
  qm_InvalidSize_InvalidBits : PySem.W.mroIn K Z.C_InvalidSize (.ref Z.C_InvalidBits) = some false
  qm_InvalidText_InvalidBits : PySem.W.mroIn K Z.C_InvalidText (.ref Z.C_InvalidBits) = some false
  qm_InvalidWord_InvalidBits : PySem.W.mroIn K Z.C_InvalidWord (.ref Z.C_InvalidBits) = some false
  qm_LaceError_InvalidBits : PySem.W.mroIn K Z.C_LaceError (.ref Z.C_InvalidBits) = some false
  qm_Nothing_InvalidBits : PySem.W.mroIn K Z.C_Nothing (.ref Z.C_InvalidBits) = some false
  qm_OverBudget_InvalidBits : PySem.W.mroIn K Z.C_OverBudget (.ref Z.C_InvalidBits) = some false
  qm_TooMany_InvalidBits : PySem.W.mroIn K Z.C_TooMany (.ref Z.C_InvalidBits) = some false
  qm_UnlikeGrids_InvalidBits : PySem.W.mroIn K Z.C_UnlikeGrids (.ref Z.C_InvalidBits) = some false
  ks_InvalidBits : PySem.W.mroIn K Z.C_InvalidBits (.ref Z.C_InvalidBits) = some true
  ky_InvalidBits : PySem.W.typeIn K (.ref Z.C_InvalidBits) = some (.type "type")
  qm_InvalidBits_InvalidBox : PySem.W.mroIn K Z.C_InvalidBits (.ref Z.C_InvalidBox) = some false
  qm_InvalidBoxes_InvalidBox : PySem.W.mroIn K Z.C_InvalidBoxes (.ref Z.C_InvalidBox) = some false
  qm_InvalidBudget_InvalidBox : PySem.W.mroIn K Z.C_InvalidBudget (.ref Z.C_InvalidBox) = some false
  qm_InvalidCell_InvalidBox : PySem.W.mroIn K Z.C_InvalidCell (.ref Z.C_InvalidBox) = some false
  qm_InvalidCommand_InvalidBox : PySem.W.mroIn K Z.C_InvalidCommand (.ref Z.C_InvalidBox) = some false
  qm_InvalidIndex_InvalidBox : PySem.W.mroIn K Z.C_InvalidIndex (.ref Z.C_InvalidBox) = some false
  qm_InvalidKey_InvalidBox : PySem.W.mroIn K Z.C_InvalidKey (.ref Z.C_InvalidBox) = some false
  qm_InvalidLayout_InvalidBox : PySem.W.mroIn K Z.C_InvalidLayout (.ref Z.C_InvalidBox) = some false
  qm_InvalidLoad_InvalidBox : PySem.W.mroIn K Z.C_InvalidLoad (.ref Z.C_InvalidBox) = some false
  qm_InvalidNumber_InvalidBox : PySem.W.mroIn K Z.C_InvalidNumber (.ref Z.C_InvalidBox) = some false
  qm_InvalidOperation_InvalidBox : PySem.W.mroIn K Z.C_InvalidOperation (.ref Z.C_InvalidBox) = some false
  qm_InvalidSize_InvalidBox : PySem.W.mroIn K Z.C_InvalidSize (.ref Z.C_InvalidBox) = some false
  qm_InvalidText_InvalidBox : PySem.W.mroIn K Z.C_InvalidText (.ref Z.C_InvalidBox) = some false
  qm_InvalidWord_InvalidBox : PySem.W.mroIn K Z.C_InvalidWord (.ref Z.C_InvalidBox) = some false
  qm_LaceError_InvalidBox : PySem.W.mroIn K Z.C_LaceError (.ref Z.C_InvalidBox) = some false
  qm_Nothing_InvalidBox : PySem.W.mroIn K Z.C_Nothing (.ref Z.C_InvalidBox) = some false
  qm_OverBudget_InvalidBox : PySem.W.mroIn K Z.C_OverBudget (.ref Z.C_InvalidBox) = some false
  qm_TooMany_InvalidBox : PySem.W.mroIn K Z.C_TooMany (.ref Z.C_InvalidBox) = some false
  qm_UnlikeGrids_InvalidBox : PySem.W.mroIn K Z.C_UnlikeGrids (.ref Z.C_InvalidBox) = some false
  ks_InvalidBox : PySem.W.mroIn K Z.C_InvalidBox (.ref Z.C_InvalidBox) = some true
  ky_InvalidBox : PySem.W.typeIn K (.ref Z.C_InvalidBox) = some (.type "type")
  qm_InvalidBits_InvalidBoxes : PySem.W.mroIn K Z.C_InvalidBits (.ref Z.C_InvalidBoxes) = some false
  qm_InvalidBox_InvalidBoxes : PySem.W.mroIn K Z.C_InvalidBox (.ref Z.C_InvalidBoxes) = some false
  qm_InvalidBudget_InvalidBoxes : PySem.W.mroIn K Z.C_InvalidBudget (.ref Z.C_InvalidBoxes) = some false
  qm_InvalidCell_InvalidBoxes : PySem.W.mroIn K Z.C_InvalidCell (.ref Z.C_InvalidBoxes) = some false
  qm_InvalidCommand_InvalidBoxes : PySem.W.mroIn K Z.C_InvalidCommand (.ref Z.C_InvalidBoxes) = some false
  qm_InvalidIndex_InvalidBoxes : PySem.W.mroIn K Z.C_InvalidIndex (.ref Z.C_InvalidBoxes) = some false
  qm_InvalidKey_InvalidBoxes : PySem.W.mroIn K Z.C_InvalidKey (.ref Z.C_InvalidBoxes) = some false
  qm_InvalidLayout_InvalidBoxes : PySem.W.mroIn K Z.C_InvalidLayout (.ref Z.C_InvalidBoxes) = some false
  qm_InvalidLoad_InvalidBoxes : PySem.W.mroIn K Z.C_InvalidLoad (.ref Z.C_InvalidBoxes) = some false
  qm_InvalidNumber_InvalidBoxes : PySem.W.mroIn K Z.C_InvalidNumber (.ref Z.C_InvalidBoxes) = some false
  qm_InvalidOperation_InvalidBoxes : PySem.W.mroIn K Z.C_InvalidOperation (.ref Z.C_InvalidBoxes) = some false
  qm_InvalidSize_InvalidBoxes : PySem.W.mroIn K Z.C_InvalidSize (.ref Z.C_InvalidBoxes) = some false
  qm_InvalidText_InvalidBoxes : PySem.W.mroIn K Z.C_InvalidText (.ref Z.C_InvalidBoxes) = some false
  qm_InvalidWord_InvalidBoxes : PySem.W.mroIn K Z.C_InvalidWord (.ref Z.C_InvalidBoxes) = some false
  qm_LaceError_InvalidBoxes : PySem.W.mroIn K Z.C_LaceError (.ref Z.C_InvalidBoxes) = some false
  qm_Nothing_InvalidBoxes : PySem.W.mroIn K Z.C_Nothing (.ref Z.C_InvalidBoxes) = some false
  qm_OverBudget_InvalidBoxes : PySem.W.mroIn K Z.C_OverBudget (.ref Z.C_InvalidBoxes) = some false
  qm_TooMany_InvalidBoxes : PySem.W.mroIn K Z.C_TooMany (.ref Z.C_InvalidBoxes) = some false
  qm_UnlikeGrids_InvalidBoxes : PySem.W.mroIn K Z.C_UnlikeGrids (.ref Z.C_InvalidBoxes) = some false
  ks_InvalidBoxes : PySem.W.mroIn K Z.C_InvalidBoxes (.ref Z.C_InvalidBoxes) = some true
  ky_InvalidBoxes : PySem.W.typeIn K (.ref Z.C_InvalidBoxes) = some (.type "type")
  qm_InvalidBits_InvalidBudget : PySem.W.mroIn K Z.C_InvalidBits (.ref Z.C_InvalidBudget) = some false
  qm_InvalidBox_InvalidBudget : PySem.W.mroIn K Z.C_InvalidBox (.ref Z.C_InvalidBudget) = some false
  qm_InvalidBoxes_InvalidBudget : PySem.W.mroIn K Z.C_InvalidBoxes (.ref Z.C_InvalidBudget) = some false
  qm_InvalidCell_InvalidBudget : PySem.W.mroIn K Z.C_InvalidCell (.ref Z.C_InvalidBudget) = some false
  qm_InvalidCommand_InvalidBudget : PySem.W.mroIn K Z.C_InvalidCommand (.ref Z.C_InvalidBudget) = some false
  qm_InvalidIndex_InvalidBudget : PySem.W.mroIn K Z.C_InvalidIndex (.ref Z.C_InvalidBudget) = some false
  qm_InvalidKey_InvalidBudget : PySem.W.mroIn K Z.C_InvalidKey (.ref Z.C_InvalidBudget) = some false
  qm_InvalidLayout_InvalidBudget : PySem.W.mroIn K Z.C_InvalidLayout (.ref Z.C_InvalidBudget) = some false
  qm_InvalidLoad_InvalidBudget : PySem.W.mroIn K Z.C_InvalidLoad (.ref Z.C_InvalidBudget) = some false
  qm_InvalidNumber_InvalidBudget : PySem.W.mroIn K Z.C_InvalidNumber (.ref Z.C_InvalidBudget) = some false
  qm_InvalidOperation_InvalidBudget : PySem.W.mroIn K Z.C_InvalidOperation (.ref Z.C_InvalidBudget) = some false
  qm_InvalidSize_InvalidBudget : PySem.W.mroIn K Z.C_InvalidSize (.ref Z.C_InvalidBudget) = some false
  qm_InvalidText_InvalidBudget : PySem.W.mroIn K Z.C_InvalidText (.ref Z.C_InvalidBudget) = some false
  qm_InvalidWord_InvalidBudget : PySem.W.mroIn K Z.C_InvalidWord (.ref Z.C_InvalidBudget) = some false
  qm_LaceError_InvalidBudget : PySem.W.mroIn K Z.C_LaceError (.ref Z.C_InvalidBudget) = some false
  qm_Nothing_InvalidBudget : PySem.W.mroIn K Z.C_Nothing (.ref Z.C_InvalidBudget) = some false
  qm_OverBudget_InvalidBudget : PySem.W.mroIn K Z.C_OverBudget (.ref Z.C_InvalidBudget) = some false
  qm_TooMany_InvalidBudget : PySem.W.mroIn K Z.C_TooMany (.ref Z.C_InvalidBudget) = some false
  qm_UnlikeGrids_InvalidBudget : PySem.W.mroIn K Z.C_UnlikeGrids (.ref Z.C_InvalidBudget) = some false
  ks_InvalidBudget : PySem.W.mroIn K Z.C_InvalidBudget (.ref Z.C_InvalidBudget) = some true
  ky_InvalidBudget : PySem.W.typeIn K (.ref Z.C_InvalidBudget) = some (.type "type")
  qm_InvalidBits_InvalidCell : PySem.W.mroIn K Z.C_InvalidBits (.ref Z.C_InvalidCell) = some false
  qm_InvalidBox_InvalidCell : PySem.W.mroIn K Z.C_InvalidBox (.ref Z.C_InvalidCell) = some false
  qm_InvalidBoxes_InvalidCell : PySem.W.mroIn K Z.C_InvalidBoxes (.ref Z.C_InvalidCell) = some false
  qm_InvalidBudget_InvalidCell : PySem.W.mroIn K Z.C_InvalidBudget (.ref Z.C_InvalidCell) = some false
  qm_InvalidCommand_InvalidCell : PySem.W.mroIn K Z.C_InvalidCommand (.ref Z.C_InvalidCell) = some false
  qm_InvalidIndex_InvalidCell : PySem.W.mroIn K Z.C_InvalidIndex (.ref Z.C_InvalidCell) = some false
  qm_InvalidKey_InvalidCell : PySem.W.mroIn K Z.C_InvalidKey (.ref Z.C_InvalidCell) = some false
  qm_InvalidLayout_InvalidCell : PySem.W.mroIn K Z.C_InvalidLayout (.ref Z.C_InvalidCell) = some false
  qm_InvalidLoad_InvalidCell : PySem.W.mroIn K Z.C_InvalidLoad (.ref Z.C_InvalidCell) = some false
  qm_InvalidNumber_InvalidCell : PySem.W.mroIn K Z.C_InvalidNumber (.ref Z.C_InvalidCell) = some false
  qm_InvalidOperation_InvalidCell : PySem.W.mroIn K Z.C_InvalidOperation (.ref Z.C_InvalidCell) = some false
  qm_InvalidSize_InvalidCell : PySem.W.mroIn K Z.C_InvalidSize (.ref Z.C_InvalidCell) = some false
  qm_InvalidText_InvalidCell : PySem.W.mroIn K Z.C_InvalidText (.ref Z.C_InvalidCell) = some false
  qm_InvalidWord_InvalidCell : PySem.W.mroIn K Z.C_InvalidWord (.ref Z.C_InvalidCell) = some false
  qm_LaceError_InvalidCell : PySem.W.mroIn K Z.C_LaceError (.ref Z.C_InvalidCell) = some false
  qm_Nothing_InvalidCell : PySem.W.mroIn K Z.C_Nothing (.ref Z.C_InvalidCell) = some false
  qm_OverBudget_InvalidCell : PySem.W.mroIn K Z.C_OverBudget (.ref Z.C_InvalidCell) = some false
  qm_TooMany_InvalidCell : PySem.W.mroIn K Z.C_TooMany (.ref Z.C_InvalidCell) = some false
  qm_UnlikeGrids_InvalidCell : PySem.W.mroIn K Z.C_UnlikeGrids (.ref Z.C_InvalidCell) = some false
  ks_InvalidCell : PySem.W.mroIn K Z.C_InvalidCell (.ref Z.C_InvalidCell) = some true
  ky_InvalidCell : PySem.W.typeIn K (.ref Z.C_InvalidCell) = some (.type "type")
  qm_InvalidBits_InvalidCommand : PySem.W.mroIn K Z.C_InvalidBits (.ref Z.C_InvalidCommand) = some false
  qm_InvalidBox_InvalidCommand : PySem.W.mroIn K Z.C_InvalidBox (.ref Z.C_InvalidCommand) = some false
  qm_InvalidBoxes_InvalidCommand : PySem.W.mroIn K Z.C_InvalidBoxes (.ref Z.C_InvalidCommand) = some false
  qm_InvalidBudget_InvalidCommand : PySem.W.mroIn K Z.C_InvalidBudget (.ref Z.C_InvalidCommand) = some false
  qm_InvalidCell_InvalidCommand : PySem.W.mroIn K Z.C_InvalidCell (.ref Z.C_InvalidCommand) = some false
  qm_InvalidIndex_InvalidCommand : PySem.W.mroIn K Z.C_InvalidIndex (.ref Z.C_InvalidCommand) = some false
  qm_InvalidKey_InvalidCommand : PySem.W.mroIn K Z.C_InvalidKey (.ref Z.C_InvalidCommand) = some false
  qm_InvalidLayout_InvalidCommand : PySem.W.mroIn K Z.C_InvalidLayout (.ref Z.C_InvalidCommand) = some false
  qm_InvalidLoad_InvalidCommand : PySem.W.mroIn K Z.C_InvalidLoad (.ref Z.C_InvalidCommand) = some false
  qm_InvalidNumber_InvalidCommand : PySem.W.mroIn K Z.C_InvalidNumber (.ref Z.C_InvalidCommand) = some false
  qm_InvalidOperation_InvalidCommand : PySem.W.mroIn K Z.C_InvalidOperation (.ref Z.C_InvalidCommand) = some false
  qm_InvalidSize_InvalidCommand : PySem.W.mroIn K Z.C_InvalidSize (.ref Z.C_InvalidCommand) = some false
  qm_InvalidText_InvalidCommand : PySem.W.mroIn K Z.C_InvalidText (.ref Z.C_InvalidCommand) = some false
  qm_InvalidWord_InvalidCommand : PySem.W.mroIn K Z.C_InvalidWord (.ref Z.C_InvalidCommand) = some false
  qm_LaceError_InvalidCommand : PySem.W.mroIn K Z.C_LaceError (.ref Z.C_InvalidCommand) = some false
  qm_Nothing_InvalidCommand : PySem.W.mroIn K Z.C_Nothing (.ref Z.C_InvalidCommand) = some false
  qm_OverBudget_InvalidCommand : PySem.W.mroIn K Z.C_OverBudget (.ref Z.C_InvalidCommand) = some false
  qm_TooMany_InvalidCommand : PySem.W.mroIn K Z.C_TooMany (.ref Z.C_InvalidCommand) = some false
  qm_UnlikeGrids_InvalidCommand : PySem.W.mroIn K Z.C_UnlikeGrids (.ref Z.C_InvalidCommand) = some false
  ks_InvalidCommand : PySem.W.mroIn K Z.C_InvalidCommand (.ref Z.C_InvalidCommand) = some true
  ky_InvalidCommand : PySem.W.typeIn K (.ref Z.C_InvalidCommand) = some (.type "type")
  qm_InvalidBits_InvalidIndex : PySem.W.mroIn K Z.C_InvalidBits (.ref Z.C_InvalidIndex) = some false
  qm_InvalidBox_InvalidIndex : PySem.W.mroIn K Z.C_InvalidBox (.ref Z.C_InvalidIndex) = some false
  qm_InvalidBoxes_InvalidIndex : PySem.W.mroIn K Z.C_InvalidBoxes (.ref Z.C_InvalidIndex) = some false
  qm_InvalidBudget_InvalidIndex : PySem.W.mroIn K Z.C_InvalidBudget (.ref Z.C_InvalidIndex) = some false
  qm_InvalidCell_InvalidIndex : PySem.W.mroIn K Z.C_InvalidCell (.ref Z.C_InvalidIndex) = some false
  qm_InvalidCommand_InvalidIndex : PySem.W.mroIn K Z.C_InvalidCommand (.ref Z.C_InvalidIndex) = some false
  qm_InvalidKey_InvalidIndex : PySem.W.mroIn K Z.C_InvalidKey (.ref Z.C_InvalidIndex) = some false
  qm_InvalidLayout_InvalidIndex : PySem.W.mroIn K Z.C_InvalidLayout (.ref Z.C_InvalidIndex) = some false
  qm_InvalidLoad_InvalidIndex : PySem.W.mroIn K Z.C_InvalidLoad (.ref Z.C_InvalidIndex) = some false
  qm_InvalidNumber_InvalidIndex : PySem.W.mroIn K Z.C_InvalidNumber (.ref Z.C_InvalidIndex) = some false
  qm_InvalidOperation_InvalidIndex : PySem.W.mroIn K Z.C_InvalidOperation (.ref Z.C_InvalidIndex) = some false
  qm_InvalidSize_InvalidIndex : PySem.W.mroIn K Z.C_InvalidSize (.ref Z.C_InvalidIndex) = some false
  qm_InvalidText_InvalidIndex : PySem.W.mroIn K Z.C_InvalidText (.ref Z.C_InvalidIndex) = some false
  qm_InvalidWord_InvalidIndex : PySem.W.mroIn K Z.C_InvalidWord (.ref Z.C_InvalidIndex) = some false
  qm_LaceError_InvalidIndex : PySem.W.mroIn K Z.C_LaceError (.ref Z.C_InvalidIndex) = some false
  qm_Nothing_InvalidIndex : PySem.W.mroIn K Z.C_Nothing (.ref Z.C_InvalidIndex) = some false
  qm_OverBudget_InvalidIndex : PySem.W.mroIn K Z.C_OverBudget (.ref Z.C_InvalidIndex) = some false
  qm_TooMany_InvalidIndex : PySem.W.mroIn K Z.C_TooMany (.ref Z.C_InvalidIndex) = some false
  qm_UnlikeGrids_InvalidIndex : PySem.W.mroIn K Z.C_UnlikeGrids (.ref Z.C_InvalidIndex) = some false
  ks_InvalidIndex : PySem.W.mroIn K Z.C_InvalidIndex (.ref Z.C_InvalidIndex) = some true
  ky_InvalidIndex : PySem.W.typeIn K (.ref Z.C_InvalidIndex) = some (.type "type")
  qm_InvalidBits_InvalidKey : PySem.W.mroIn K Z.C_InvalidBits (.ref Z.C_InvalidKey) = some false
  qm_InvalidBox_InvalidKey : PySem.W.mroIn K Z.C_InvalidBox (.ref Z.C_InvalidKey) = some false
  qm_InvalidBoxes_InvalidKey : PySem.W.mroIn K Z.C_InvalidBoxes (.ref Z.C_InvalidKey) = some false
  qm_InvalidBudget_InvalidKey : PySem.W.mroIn K Z.C_InvalidBudget (.ref Z.C_InvalidKey) = some false
  qm_InvalidCell_InvalidKey : PySem.W.mroIn K Z.C_InvalidCell (.ref Z.C_InvalidKey) = some false
  qm_InvalidCommand_InvalidKey : PySem.W.mroIn K Z.C_InvalidCommand (.ref Z.C_InvalidKey) = some false
  qm_InvalidIndex_InvalidKey : PySem.W.mroIn K Z.C_InvalidIndex (.ref Z.C_InvalidKey) = some false
  qm_InvalidLayout_InvalidKey : PySem.W.mroIn K Z.C_InvalidLayout (.ref Z.C_InvalidKey) = some false
  qm_InvalidLoad_InvalidKey : PySem.W.mroIn K Z.C_InvalidLoad (.ref Z.C_InvalidKey) = some false
  qm_InvalidNumber_InvalidKey : PySem.W.mroIn K Z.C_InvalidNumber (.ref Z.C_InvalidKey) = some false
  qm_InvalidOperation_InvalidKey : PySem.W.mroIn K Z.C_InvalidOperation (.ref Z.C_InvalidKey) = some false
  qm_InvalidSize_InvalidKey : PySem.W.mroIn K Z.C_InvalidSize (.ref Z.C_InvalidKey) = some false
  qm_InvalidText_InvalidKey : PySem.W.mroIn K Z.C_InvalidText (.ref Z.C_InvalidKey) = some false
  qm_InvalidWord_InvalidKey : PySem.W.mroIn K Z.C_InvalidWord (.ref Z.C_InvalidKey) = some false
  qm_LaceError_InvalidKey : PySem.W.mroIn K Z.C_LaceError (.ref Z.C_InvalidKey) = some false
  qm_Nothing_InvalidKey : PySem.W.mroIn K Z.C_Nothing (.ref Z.C_InvalidKey) = some false
  qm_OverBudget_InvalidKey : PySem.W.mroIn K Z.C_OverBudget (.ref Z.C_InvalidKey) = some false
  qm_TooMany_InvalidKey : PySem.W.mroIn K Z.C_TooMany (.ref Z.C_InvalidKey) = some false
  qm_UnlikeGrids_InvalidKey : PySem.W.mroIn K Z.C_UnlikeGrids (.ref Z.C_InvalidKey) = some false
  ks_InvalidKey : PySem.W.mroIn K Z.C_InvalidKey (.ref Z.C_InvalidKey) = some true
  ky_InvalidKey : PySem.W.typeIn K (.ref Z.C_InvalidKey) = some (.type "type")
  qm_InvalidBits_InvalidLayout : PySem.W.mroIn K Z.C_InvalidBits (.ref Z.C_InvalidLayout) = some false
  qm_InvalidBox_InvalidLayout : PySem.W.mroIn K Z.C_InvalidBox (.ref Z.C_InvalidLayout) = some false
  qm_InvalidBoxes_InvalidLayout : PySem.W.mroIn K Z.C_InvalidBoxes (.ref Z.C_InvalidLayout) = some false
  qm_InvalidBudget_InvalidLayout : PySem.W.mroIn K Z.C_InvalidBudget (.ref Z.C_InvalidLayout) = some false
  qm_InvalidCell_InvalidLayout : PySem.W.mroIn K Z.C_InvalidCell (.ref Z.C_InvalidLayout) = some false
  qm_InvalidCommand_InvalidLayout : PySem.W.mroIn K Z.C_InvalidCommand (.ref Z.C_InvalidLayout) = some false
  qm_InvalidIndex_InvalidLayout : PySem.W.mroIn K Z.C_InvalidIndex (.ref Z.C_InvalidLayout) = some false
  qm_InvalidKey_InvalidLayout : PySem.W.mroIn K Z.C_InvalidKey (.ref Z.C_InvalidLayout) = some false
  qm_InvalidLoad_InvalidLayout : PySem.W.mroIn K Z.C_InvalidLoad (.ref Z.C_InvalidLayout) = some false
  qm_InvalidNumber_InvalidLayout : PySem.W.mroIn K Z.C_InvalidNumber (.ref Z.C_InvalidLayout) = some false
  qm_InvalidOperation_InvalidLayout : PySem.W.mroIn K Z.C_InvalidOperation (.ref Z.C_InvalidLayout) = some false
  qm_InvalidSize_InvalidLayout : PySem.W.mroIn K Z.C_InvalidSize (.ref Z.C_InvalidLayout) = some false
  qm_InvalidText_InvalidLayout : PySem.W.mroIn K Z.C_InvalidText (.ref Z.C_InvalidLayout) = some false
  qm_InvalidWord_InvalidLayout : PySem.W.mroIn K Z.C_InvalidWord (.ref Z.C_InvalidLayout) = some false
  qm_LaceError_InvalidLayout : PySem.W.mroIn K Z.C_LaceError (.ref Z.C_InvalidLayout) = some false
  qm_Nothing_InvalidLayout : PySem.W.mroIn K Z.C_Nothing (.ref Z.C_InvalidLayout) = some false
  qm_OverBudget_InvalidLayout : PySem.W.mroIn K Z.C_OverBudget (.ref Z.C_InvalidLayout) = some false
  qm_TooMany_InvalidLayout : PySem.W.mroIn K Z.C_TooMany (.ref Z.C_InvalidLayout) = some false
  qm_UnlikeGrids_InvalidLayout : PySem.W.mroIn K Z.C_UnlikeGrids (.ref Z.C_InvalidLayout) = some false
  ks_InvalidLayout : PySem.W.mroIn K Z.C_InvalidLayout (.ref Z.C_InvalidLayout) = some true
  ky_InvalidLayout : PySem.W.typeIn K (.ref Z.C_InvalidLayout) = some (.type "type")
  qm_InvalidBits_InvalidLoad : PySem.W.mroIn K Z.C_InvalidBits (.ref Z.C_InvalidLoad) = some false
  qm_InvalidBox_InvalidLoad : PySem.W.mroIn K Z.C_InvalidBox (.ref Z.C_InvalidLoad) = some false
  qm_InvalidBoxes_InvalidLoad : PySem.W.mroIn K Z.C_InvalidBoxes (.ref Z.C_InvalidLoad) = some false
  qm_InvalidBudget_InvalidLoad : PySem.W.mroIn K Z.C_InvalidBudget (.ref Z.C_InvalidLoad) = some false
  qm_InvalidCell_InvalidLoad : PySem.W.mroIn K Z.C_InvalidCell (.ref Z.C_InvalidLoad) = some false
  qm_InvalidCommand_InvalidLoad : PySem.W.mroIn K Z.C_InvalidCommand (.ref Z.C_InvalidLoad) = some false
  qm_InvalidIndex_InvalidLoad : PySem.W.mroIn K Z.C_InvalidIndex (.ref Z.C_InvalidLoad) = some false
  qm_InvalidKey_InvalidLoad : PySem.W.mroIn K Z.C_InvalidKey (.ref Z.C_InvalidLoad) = some false
  qm_InvalidLayout_InvalidLoad : PySem.W.mroIn K Z.C_InvalidLayout (.ref Z.C_InvalidLoad) = some false
  qm_InvalidNumber_InvalidLoad : PySem.W.mroIn K Z.C_InvalidNumber (.ref Z.C_InvalidLoad) = some false
  qm_InvalidOperation_InvalidLoad : PySem.W.mroIn K Z.C_InvalidOperation (.ref Z.C_InvalidLoad) = some false
  qm_InvalidSize_InvalidLoad : PySem.W.mroIn K Z.C_InvalidSize (.ref Z.C_InvalidLoad) = some false
  qm_InvalidText_InvalidLoad : PySem.W.mroIn K Z.C_InvalidText (.ref Z.C_InvalidLoad) = some false
  qm_InvalidWord_InvalidLoad : PySem.W.mroIn K Z.C_InvalidWord (.ref Z.C_InvalidLoad) = some false
  qm_LaceError_InvalidLoad : PySem.W.mroIn K Z.C_LaceError (.ref Z.C_InvalidLoad) = some false
  qm_Nothing_InvalidLoad : PySem.W.mroIn K Z.C_Nothing (.ref Z.C_InvalidLoad) = some false
  qm_OverBudget_InvalidLoad : PySem.W.mroIn K Z.C_OverBudget (.ref Z.C_InvalidLoad) = some false
  qm_TooMany_InvalidLoad : PySem.W.mroIn K Z.C_TooMany (.ref Z.C_InvalidLoad) = some false
  qm_UnlikeGrids_InvalidLoad : PySem.W.mroIn K Z.C_UnlikeGrids (.ref Z.C_InvalidLoad) = some false
  ks_InvalidLoad : PySem.W.mroIn K Z.C_InvalidLoad (.ref Z.C_InvalidLoad) = some true
  ky_InvalidLoad : PySem.W.typeIn K (.ref Z.C_InvalidLoad) = some (.type "type")
  qm_InvalidBits_InvalidNumber : PySem.W.mroIn K Z.C_InvalidBits (.ref Z.C_InvalidNumber) = some false
  qm_InvalidBox_InvalidNumber : PySem.W.mroIn K Z.C_InvalidBox (.ref Z.C_InvalidNumber) = some false
  qm_InvalidBoxes_InvalidNumber : PySem.W.mroIn K Z.C_InvalidBoxes (.ref Z.C_InvalidNumber) = some false
  qm_InvalidBudget_InvalidNumber : PySem.W.mroIn K Z.C_InvalidBudget (.ref Z.C_InvalidNumber) = some false
  qm_InvalidCell_InvalidNumber : PySem.W.mroIn K Z.C_InvalidCell (.ref Z.C_InvalidNumber) = some false
  qm_InvalidCommand_InvalidNumber : PySem.W.mroIn K Z.C_InvalidCommand (.ref Z.C_InvalidNumber) = some false
  qm_InvalidIndex_InvalidNumber : PySem.W.mroIn K Z.C_InvalidIndex (.ref Z.C_InvalidNumber) = some false
  qm_InvalidKey_InvalidNumber : PySem.W.mroIn K Z.C_InvalidKey (.ref Z.C_InvalidNumber) = some false
  qm_InvalidLayout_InvalidNumber : PySem.W.mroIn K Z.C_InvalidLayout (.ref Z.C_InvalidNumber) = some false
  qm_InvalidLoad_InvalidNumber : PySem.W.mroIn K Z.C_InvalidLoad (.ref Z.C_InvalidNumber) = some false
  qm_InvalidOperation_InvalidNumber : PySem.W.mroIn K Z.C_InvalidOperation (.ref Z.C_InvalidNumber) = some false
  qm_InvalidSize_InvalidNumber : PySem.W.mroIn K Z.C_InvalidSize (.ref Z.C_InvalidNumber) = some false
  qm_InvalidText_InvalidNumber : PySem.W.mroIn K Z.C_InvalidText (.ref Z.C_InvalidNumber) = some false
  qm_InvalidWord_InvalidNumber : PySem.W.mroIn K Z.C_InvalidWord (.ref Z.C_InvalidNumber) = some false
  qm_LaceError_InvalidNumber : PySem.W.mroIn K Z.C_LaceError (.ref Z.C_InvalidNumber) = some false
  qm_Nothing_InvalidNumber : PySem.W.mroIn K Z.C_Nothing (.ref Z.C_InvalidNumber) = some false
  qm_OverBudget_InvalidNumber : PySem.W.mroIn K Z.C_OverBudget (.ref Z.C_InvalidNumber) = some false
  qm_TooMany_InvalidNumber : PySem.W.mroIn K Z.C_TooMany (.ref Z.C_InvalidNumber) = some false
  qm_UnlikeGrids_InvalidNumber : PySem.W.mroIn K Z.C_UnlikeGrids (.ref Z.C_InvalidNumber) = some false
  ks_InvalidNumber : PySem.W.mroIn K Z.C_InvalidNumber (.ref Z.C_InvalidNumber) = some true
  ky_InvalidNumber : PySem.W.typeIn K (.ref Z.C_InvalidNumber) = some (.type "type")
  qm_InvalidBits_InvalidOperation : PySem.W.mroIn K Z.C_InvalidBits (.ref Z.C_InvalidOperation) = some false
  qm_InvalidBox_InvalidOperation : PySem.W.mroIn K Z.C_InvalidBox (.ref Z.C_InvalidOperation) = some false
  qm_InvalidBoxes_InvalidOperation : PySem.W.mroIn K Z.C_InvalidBoxes (.ref Z.C_InvalidOperation) = some false
  qm_InvalidBudget_InvalidOperation : PySem.W.mroIn K Z.C_InvalidBudget (.ref Z.C_InvalidOperation) = some false
  qm_InvalidCell_InvalidOperation : PySem.W.mroIn K Z.C_InvalidCell (.ref Z.C_InvalidOperation) = some false
  qm_InvalidCommand_InvalidOperation : PySem.W.mroIn K Z.C_InvalidCommand (.ref Z.C_InvalidOperation) = some false
  qm_InvalidIndex_InvalidOperation : PySem.W.mroIn K Z.C_InvalidIndex (.ref Z.C_InvalidOperation) = some false
  qm_InvalidKey_InvalidOperation : PySem.W.mroIn K Z.C_InvalidKey (.ref Z.C_InvalidOperation) = some false
  qm_InvalidLayout_InvalidOperation : PySem.W.mroIn K Z.C_InvalidLayout (.ref Z.C_InvalidOperation) = some false
  qm_InvalidLoad_InvalidOperation : PySem.W.mroIn K Z.C_InvalidLoad (.ref Z.C_InvalidOperation) = some false
  qm_InvalidNumber_InvalidOperation : PySem.W.mroIn K Z.C_InvalidNumber (.ref Z.C_InvalidOperation) = some false
  qm_InvalidSize_InvalidOperation : PySem.W.mroIn K Z.C_InvalidSize (.ref Z.C_InvalidOperation) = some false
  qm_InvalidText_InvalidOperation : PySem.W.mroIn K Z.C_InvalidText (.ref Z.C_InvalidOperation) = some false
  qm_InvalidWord_InvalidOperation : PySem.W.mroIn K Z.C_InvalidWord (.ref Z.C_InvalidOperation) = some false
  qm_LaceError_InvalidOperation : PySem.W.mroIn K Z.C_LaceError (.ref Z.C_InvalidOperation) = some false
  qm_Nothing_InvalidOperation : PySem.W.mroIn K Z.C_Nothing (.ref Z.C_InvalidOperation) = some false
  qm_OverBudget_InvalidOperation : PySem.W.mroIn K Z.C_OverBudget (.ref Z.C_InvalidOperation) = some false
  qm_TooMany_InvalidOperation : PySem.W.mroIn K Z.C_TooMany (.ref Z.C_InvalidOperation) = some false
  qm_UnlikeGrids_InvalidOperation : PySem.W.mroIn K Z.C_UnlikeGrids (.ref Z.C_InvalidOperation) = some false
  ks_InvalidOperation : PySem.W.mroIn K Z.C_InvalidOperation (.ref Z.C_InvalidOperation) = some true
  ky_InvalidOperation : PySem.W.typeIn K (.ref Z.C_InvalidOperation) = some (.type "type")
  qm_InvalidBits_InvalidSize : PySem.W.mroIn K Z.C_InvalidBits (.ref Z.C_InvalidSize) = some false
  qm_InvalidBox_InvalidSize : PySem.W.mroIn K Z.C_InvalidBox (.ref Z.C_InvalidSize) = some false
  qm_InvalidBoxes_InvalidSize : PySem.W.mroIn K Z.C_InvalidBoxes (.ref Z.C_InvalidSize) = some false
  qm_InvalidBudget_InvalidSize : PySem.W.mroIn K Z.C_InvalidBudget (.ref Z.C_InvalidSize) = some false
  qm_InvalidCell_InvalidSize : PySem.W.mroIn K Z.C_InvalidCell (.ref Z.C_InvalidSize) = some false
  qm_InvalidCommand_InvalidSize : PySem.W.mroIn K Z.C_InvalidCommand (.ref Z.C_InvalidSize) = some false
  qm_InvalidIndex_InvalidSize : PySem.W.mroIn K Z.C_InvalidIndex (.ref Z.C_InvalidSize) = some false
  qm_InvalidKey_InvalidSize : PySem.W.mroIn K Z.C_InvalidKey (.ref Z.C_InvalidSize) = some false
  qm_InvalidLayout_InvalidSize : PySem.W.mroIn K Z.C_InvalidLayout (.ref Z.C_InvalidSize) = some false
  qm_InvalidLoad_InvalidSize : PySem.W.mroIn K Z.C_InvalidLoad (.ref Z.C_InvalidSize) = some false
  qm_InvalidNumber_InvalidSize : PySem.W.mroIn K Z.C_InvalidNumber (.ref Z.C_InvalidSize) = some false
  qm_InvalidOperation_InvalidSize : PySem.W.mroIn K Z.C_InvalidOperation (.ref Z.C_InvalidSize) = some false
  qm_InvalidText_InvalidSize : PySem.W.mroIn K Z.C_InvalidText (.ref Z.C_InvalidSize) = some false
  qm_InvalidWord_InvalidSize : PySem.W.mroIn K Z.C_InvalidWord (.ref Z.C_InvalidSize) = some false
  qm_LaceError_InvalidSize : PySem.W.mroIn K Z.C_LaceError (.ref Z.C_InvalidSize) = some false
  qm_Nothing_InvalidSize : PySem.W.mroIn K Z.C_Nothing (.ref Z.C_InvalidSize) = some false
  qm_OverBudget_InvalidSize : PySem.W.mroIn K Z.C_OverBudget (.ref Z.C_InvalidSize) = some false
  qm_TooMany_InvalidSize : PySem.W.mroIn K Z.C_TooMany (.ref Z.C_InvalidSize) = some false
  qm_UnlikeGrids_InvalidSize : PySem.W.mroIn K Z.C_UnlikeGrids (.ref Z.C_InvalidSize) = some false
  ks_InvalidSize : PySem.W.mroIn K Z.C_InvalidSize (.ref Z.C_InvalidSize) = some true
  ky_InvalidSize : PySem.W.typeIn K (.ref Z.C_InvalidSize) = some (.type "type")
  qm_InvalidBits_InvalidText : PySem.W.mroIn K Z.C_InvalidBits (.ref Z.C_InvalidText) = some false
  qm_InvalidBox_InvalidText : PySem.W.mroIn K Z.C_InvalidBox (.ref Z.C_InvalidText) = some false
  qm_InvalidBoxes_InvalidText : PySem.W.mroIn K Z.C_InvalidBoxes (.ref Z.C_InvalidText) = some false
  qm_InvalidBudget_InvalidText : PySem.W.mroIn K Z.C_InvalidBudget (.ref Z.C_InvalidText) = some false
  qm_InvalidCell_InvalidText : PySem.W.mroIn K Z.C_InvalidCell (.ref Z.C_InvalidText) = some false
  qm_InvalidCommand_InvalidText : PySem.W.mroIn K Z.C_InvalidCommand (.ref Z.C_InvalidText) = some false
  qm_InvalidIndex_InvalidText : PySem.W.mroIn K Z.C_InvalidIndex (.ref Z.C_InvalidText) = some false
  qm_InvalidKey_InvalidText : PySem.W.mroIn K Z.C_InvalidKey (.ref Z.C_InvalidText) = some false
  qm_InvalidLayout_InvalidText : PySem.W.mroIn K Z.C_InvalidLayout (.ref Z.C_InvalidText) = some false
  qm_InvalidLoad_InvalidText : PySem.W.mroIn K Z.C_InvalidLoad (.ref Z.C_InvalidText) = some false
  qm_InvalidNumber_InvalidText : PySem.W.mroIn K Z.C_InvalidNumber (.ref Z.C_InvalidText) = some false
  qm_InvalidOperation_InvalidText : PySem.W.mroIn K Z.C_InvalidOperation (.ref Z.C_InvalidText) = some false
  qm_InvalidSize_InvalidText : PySem.W.mroIn K Z.C_InvalidSize (.ref Z.C_InvalidText) = some false
  qm_InvalidWord_InvalidText : PySem.W.mroIn K Z.C_InvalidWord (.ref Z.C_InvalidText) = some false
  qm_LaceError_InvalidText : PySem.W.mroIn K Z.C_LaceError (.ref Z.C_InvalidText) = some false
  qm_Nothing_InvalidText : PySem.W.mroIn K Z.C_Nothing (.ref Z.C_InvalidText) = some false
  qm_OverBudget_InvalidText : PySem.W.mroIn K Z.C_OverBudget (.ref Z.C_InvalidText) = some false
  qm_TooMany_InvalidText : PySem.W.mroIn K Z.C_TooMany (.ref Z.C_InvalidText) = some false
  qm_UnlikeGrids_InvalidText : PySem.W.mroIn K Z.C_UnlikeGrids (.ref Z.C_InvalidText) = some false
  ks_InvalidText : PySem.W.mroIn K Z.C_InvalidText (.ref Z.C_InvalidText) = some true
  ky_InvalidText : PySem.W.typeIn K (.ref Z.C_InvalidText) = some (.type "type")
  qm_InvalidBits_InvalidWord : PySem.W.mroIn K Z.C_InvalidBits (.ref Z.C_InvalidWord) = some false
  qm_InvalidBox_InvalidWord : PySem.W.mroIn K Z.C_InvalidBox (.ref Z.C_InvalidWord) = some false
  qm_InvalidBoxes_InvalidWord : PySem.W.mroIn K Z.C_InvalidBoxes (.ref Z.C_InvalidWord) = some false
  qm_InvalidBudget_InvalidWord : PySem.W.mroIn K Z.C_InvalidBudget (.ref Z.C_InvalidWord) = some false
  qm_InvalidCell_InvalidWord : PySem.W.mroIn K Z.C_InvalidCell (.ref Z.C_InvalidWord) = some false
  qm_InvalidCommand_InvalidWord : PySem.W.mroIn K Z.C_InvalidCommand (.ref Z.C_InvalidWord) = some false
  qm_InvalidIndex_InvalidWord : PySem.W.mroIn K Z.C_InvalidIndex (.ref Z.C_InvalidWord) = some false
  qm_InvalidKey_InvalidWord : PySem.W.mroIn K Z.C_InvalidKey (.ref Z.C_InvalidWord) = some false
  qm_InvalidLayout_InvalidWord : PySem.W.mroIn K Z.C_InvalidLayout (.ref Z.C_InvalidWord) = some false
  qm_InvalidLoad_InvalidWord : PySem.W.mroIn K Z.C_InvalidLoad (.ref Z.C_InvalidWord) = some false
  qm_InvalidNumber_InvalidWord : PySem.W.mroIn K Z.C_InvalidNumber (.ref Z.C_InvalidWord) = some false
  qm_InvalidOperation_InvalidWord : PySem.W.mroIn K Z.C_InvalidOperation (.ref Z.C_InvalidWord) = some false
  qm_InvalidSize_InvalidWord : PySem.W.mroIn K Z.C_InvalidSize (.ref Z.C_InvalidWord) = some false
  qm_InvalidText_InvalidWord : PySem.W.mroIn K Z.C_InvalidText (.ref Z.C_InvalidWord) = some false
  qm_LaceError_InvalidWord : PySem.W.mroIn K Z.C_LaceError (.ref Z.C_InvalidWord) = some false
  qm_Nothing_InvalidWord : PySem.W.mroIn K Z.C_Nothing (.ref Z.C_InvalidWord) = some false
  qm_OverBudget_InvalidWord : PySem.W.mroIn K Z.C_OverBudget (.ref Z.C_InvalidWord) = some false
  qm_TooMany_InvalidWord : PySem.W.mroIn K Z.C_TooMany (.ref Z.C_InvalidWord) = some false
  qm_UnlikeGrids_InvalidWord : PySem.W.mroIn K Z.C_UnlikeGrids (.ref Z.C_InvalidWord) = some false
  ks_InvalidWord : PySem.W.mroIn K Z.C_InvalidWord (.ref Z.C_InvalidWord) = some true
  ky_InvalidWord : PySem.W.typeIn K (.ref Z.C_InvalidWord) = some (.type "type")
  qm_InvalidBits_LaceError : PySem.W.mroIn K Z.C_InvalidBits (.ref Z.C_LaceError) = some true
  qm_InvalidBox_LaceError : PySem.W.mroIn K Z.C_InvalidBox (.ref Z.C_LaceError) = some true
  qm_InvalidBoxes_LaceError : PySem.W.mroIn K Z.C_InvalidBoxes (.ref Z.C_LaceError) = some true
  qm_InvalidBudget_LaceError : PySem.W.mroIn K Z.C_InvalidBudget (.ref Z.C_LaceError) = some true
  qm_InvalidCell_LaceError : PySem.W.mroIn K Z.C_InvalidCell (.ref Z.C_LaceError) = some true
  qm_InvalidCommand_LaceError : PySem.W.mroIn K Z.C_InvalidCommand (.ref Z.C_LaceError) = some true
  qm_InvalidIndex_LaceError : PySem.W.mroIn K Z.C_InvalidIndex (.ref Z.C_LaceError) = some true
  qm_InvalidKey_LaceError : PySem.W.mroIn K Z.C_InvalidKey (.ref Z.C_LaceError) = some true
  qm_InvalidLayout_LaceError : PySem.W.mroIn K Z.C_InvalidLayout (.ref Z.C_LaceError) = some true
  qm_InvalidLoad_LaceError : PySem.W.mroIn K Z.C_InvalidLoad (.ref Z.C_LaceError) = some true
  qm_InvalidNumber_LaceError : PySem.W.mroIn K Z.C_InvalidNumber (.ref Z.C_LaceError) = some true
  qm_InvalidOperation_LaceError : PySem.W.mroIn K Z.C_InvalidOperation (.ref Z.C_LaceError) = some true
  qm_InvalidSize_LaceError : PySem.W.mroIn K Z.C_InvalidSize (.ref Z.C_LaceError) = some true
  qm_InvalidText_LaceError : PySem.W.mroIn K Z.C_InvalidText (.ref Z.C_LaceError) = some true
  qm_InvalidWord_LaceError : PySem.W.mroIn K Z.C_InvalidWord (.ref Z.C_LaceError) = some true
  qm_Nothing_LaceError : PySem.W.mroIn K Z.C_Nothing (.ref Z.C_LaceError) = some true
  qm_OverBudget_LaceError : PySem.W.mroIn K Z.C_OverBudget (.ref Z.C_LaceError) = some true
  qm_TooMany_LaceError : PySem.W.mroIn K Z.C_TooMany (.ref Z.C_LaceError) = some true
  qm_UnlikeGrids_LaceError : PySem.W.mroIn K Z.C_UnlikeGrids (.ref Z.C_LaceError) = some true
  ks_LaceError : PySem.W.mroIn K Z.C_LaceError (.ref Z.C_LaceError) = some true
  ky_LaceError : PySem.W.typeIn K (.ref Z.C_LaceError) = some (.type "type")
  qm_InvalidBits_Nothing : PySem.W.mroIn K Z.C_InvalidBits (.ref Z.C_Nothing) = some false
  qm_InvalidBox_Nothing : PySem.W.mroIn K Z.C_InvalidBox (.ref Z.C_Nothing) = some false
  qm_InvalidBoxes_Nothing : PySem.W.mroIn K Z.C_InvalidBoxes (.ref Z.C_Nothing) = some false
  qm_InvalidBudget_Nothing : PySem.W.mroIn K Z.C_InvalidBudget (.ref Z.C_Nothing) = some false
  qm_InvalidCell_Nothing : PySem.W.mroIn K Z.C_InvalidCell (.ref Z.C_Nothing) = some false
  qm_InvalidCommand_Nothing : PySem.W.mroIn K Z.C_InvalidCommand (.ref Z.C_Nothing) = some false
  qm_InvalidIndex_Nothing : PySem.W.mroIn K Z.C_InvalidIndex (.ref Z.C_Nothing) = some false
  qm_InvalidKey_Nothing : PySem.W.mroIn K Z.C_InvalidKey (.ref Z.C_Nothing) = some false
  qm_InvalidLayout_Nothing : PySem.W.mroIn K Z.C_InvalidLayout (.ref Z.C_Nothing) = some false
  qm_InvalidLoad_Nothing : PySem.W.mroIn K Z.C_InvalidLoad (.ref Z.C_Nothing) = some false
  qm_InvalidNumber_Nothing : PySem.W.mroIn K Z.C_InvalidNumber (.ref Z.C_Nothing) = some false
  qm_InvalidOperation_Nothing : PySem.W.mroIn K Z.C_InvalidOperation (.ref Z.C_Nothing) = some false
  qm_InvalidSize_Nothing : PySem.W.mroIn K Z.C_InvalidSize (.ref Z.C_Nothing) = some false
  qm_InvalidText_Nothing : PySem.W.mroIn K Z.C_InvalidText (.ref Z.C_Nothing) = some false
  qm_InvalidWord_Nothing : PySem.W.mroIn K Z.C_InvalidWord (.ref Z.C_Nothing) = some false
  qm_LaceError_Nothing : PySem.W.mroIn K Z.C_LaceError (.ref Z.C_Nothing) = some false
  qm_OverBudget_Nothing : PySem.W.mroIn K Z.C_OverBudget (.ref Z.C_Nothing) = some false
  qm_TooMany_Nothing : PySem.W.mroIn K Z.C_TooMany (.ref Z.C_Nothing) = some false
  qm_UnlikeGrids_Nothing : PySem.W.mroIn K Z.C_UnlikeGrids (.ref Z.C_Nothing) = some false
  ks_Nothing : PySem.W.mroIn K Z.C_Nothing (.ref Z.C_Nothing) = some true
  ky_Nothing : PySem.W.typeIn K (.ref Z.C_Nothing) = some (.type "type")
  qm_InvalidBits_OverBudget : PySem.W.mroIn K Z.C_InvalidBits (.ref Z.C_OverBudget) = some false
  qm_InvalidBox_OverBudget : PySem.W.mroIn K Z.C_InvalidBox (.ref Z.C_OverBudget) = some false
  qm_InvalidBoxes_OverBudget : PySem.W.mroIn K Z.C_InvalidBoxes (.ref Z.C_OverBudget) = some false
  qm_InvalidBudget_OverBudget : PySem.W.mroIn K Z.C_InvalidBudget (.ref Z.C_OverBudget) = some false
  qm_InvalidCell_OverBudget : PySem.W.mroIn K Z.C_InvalidCell (.ref Z.C_OverBudget) = some false
  qm_InvalidCommand_OverBudget : PySem.W.mroIn K Z.C_InvalidCommand (.ref Z.C_OverBudget) = some false
  qm_InvalidIndex_OverBudget : PySem.W.mroIn K Z.C_InvalidIndex (.ref Z.C_OverBudget) = some false
  qm_InvalidKey_OverBudget : PySem.W.mroIn K Z.C_InvalidKey (.ref Z.C_OverBudget) = some false
  qm_InvalidLayout_OverBudget : PySem.W.mroIn K Z.C_InvalidLayout (.ref Z.C_OverBudget) = some false
  qm_InvalidLoad_OverBudget : PySem.W.mroIn K Z.C_InvalidLoad (.ref Z.C_OverBudget) = some false
  qm_InvalidNumber_OverBudget : PySem.W.mroIn K Z.C_InvalidNumber (.ref Z.C_OverBudget) = some false
  qm_InvalidOperation_OverBudget : PySem.W.mroIn K Z.C_InvalidOperation (.ref Z.C_OverBudget) = some false
  qm_InvalidSize_OverBudget : PySem.W.mroIn K Z.C_InvalidSize (.ref Z.C_OverBudget) = some false
  qm_InvalidText_OverBudget : PySem.W.mroIn K Z.C_InvalidText (.ref Z.C_OverBudget) = some false
  qm_InvalidWord_OverBudget : PySem.W.mroIn K Z.C_InvalidWord (.ref Z.C_OverBudget) = some false
  qm_LaceError_OverBudget : PySem.W.mroIn K Z.C_LaceError (.ref Z.C_OverBudget) = some false
  qm_Nothing_OverBudget : PySem.W.mroIn K Z.C_Nothing (.ref Z.C_OverBudget) = some false
  qm_TooMany_OverBudget : PySem.W.mroIn K Z.C_TooMany (.ref Z.C_OverBudget) = some false
  qm_UnlikeGrids_OverBudget : PySem.W.mroIn K Z.C_UnlikeGrids (.ref Z.C_OverBudget) = some false
  ks_OverBudget : PySem.W.mroIn K Z.C_OverBudget (.ref Z.C_OverBudget) = some true
  ky_OverBudget : PySem.W.typeIn K (.ref Z.C_OverBudget) = some (.type "type")
  qm_InvalidBits_TooMany : PySem.W.mroIn K Z.C_InvalidBits (.ref Z.C_TooMany) = some false
  qm_InvalidBox_TooMany : PySem.W.mroIn K Z.C_InvalidBox (.ref Z.C_TooMany) = some false
  qm_InvalidBoxes_TooMany : PySem.W.mroIn K Z.C_InvalidBoxes (.ref Z.C_TooMany) = some false
  qm_InvalidBudget_TooMany : PySem.W.mroIn K Z.C_InvalidBudget (.ref Z.C_TooMany) = some false
  qm_InvalidCell_TooMany : PySem.W.mroIn K Z.C_InvalidCell (.ref Z.C_TooMany) = some false
  qm_InvalidCommand_TooMany : PySem.W.mroIn K Z.C_InvalidCommand (.ref Z.C_TooMany) = some false
  qm_InvalidIndex_TooMany : PySem.W.mroIn K Z.C_InvalidIndex (.ref Z.C_TooMany) = some false
  qm_InvalidKey_TooMany : PySem.W.mroIn K Z.C_InvalidKey (.ref Z.C_TooMany) = some false
  qm_InvalidLayout_TooMany : PySem.W.mroIn K Z.C_InvalidLayout (.ref Z.C_TooMany) = some false
  qm_InvalidLoad_TooMany : PySem.W.mroIn K Z.C_InvalidLoad (.ref Z.C_TooMany) = some false
  qm_InvalidNumber_TooMany : PySem.W.mroIn K Z.C_InvalidNumber (.ref Z.C_TooMany) = some false
  qm_InvalidOperation_TooMany : PySem.W.mroIn K Z.C_InvalidOperation (.ref Z.C_TooMany) = some false
  qm_InvalidSize_TooMany : PySem.W.mroIn K Z.C_InvalidSize (.ref Z.C_TooMany) = some false
  qm_InvalidText_TooMany : PySem.W.mroIn K Z.C_InvalidText (.ref Z.C_TooMany) = some false
  qm_InvalidWord_TooMany : PySem.W.mroIn K Z.C_InvalidWord (.ref Z.C_TooMany) = some false
  qm_LaceError_TooMany : PySem.W.mroIn K Z.C_LaceError (.ref Z.C_TooMany) = some false
  qm_Nothing_TooMany : PySem.W.mroIn K Z.C_Nothing (.ref Z.C_TooMany) = some false
  qm_OverBudget_TooMany : PySem.W.mroIn K Z.C_OverBudget (.ref Z.C_TooMany) = some false
  qm_UnlikeGrids_TooMany : PySem.W.mroIn K Z.C_UnlikeGrids (.ref Z.C_TooMany) = some false
  ks_TooMany : PySem.W.mroIn K Z.C_TooMany (.ref Z.C_TooMany) = some true
  ky_TooMany : PySem.W.typeIn K (.ref Z.C_TooMany) = some (.type "type")
  qm_InvalidBits_UnlikeGrids : PySem.W.mroIn K Z.C_InvalidBits (.ref Z.C_UnlikeGrids) = some false
  qm_InvalidBox_UnlikeGrids : PySem.W.mroIn K Z.C_InvalidBox (.ref Z.C_UnlikeGrids) = some false
  qm_InvalidBoxes_UnlikeGrids : PySem.W.mroIn K Z.C_InvalidBoxes (.ref Z.C_UnlikeGrids) = some false
  qm_InvalidBudget_UnlikeGrids : PySem.W.mroIn K Z.C_InvalidBudget (.ref Z.C_UnlikeGrids) = some false
  qm_InvalidCell_UnlikeGrids : PySem.W.mroIn K Z.C_InvalidCell (.ref Z.C_UnlikeGrids) = some false
  qm_InvalidCommand_UnlikeGrids : PySem.W.mroIn K Z.C_InvalidCommand (.ref Z.C_UnlikeGrids) = some false
  qm_InvalidIndex_UnlikeGrids : PySem.W.mroIn K Z.C_InvalidIndex (.ref Z.C_UnlikeGrids) = some false
  qm_InvalidKey_UnlikeGrids : PySem.W.mroIn K Z.C_InvalidKey (.ref Z.C_UnlikeGrids) = some false
  qm_InvalidLayout_UnlikeGrids : PySem.W.mroIn K Z.C_InvalidLayout (.ref Z.C_UnlikeGrids) = some false
  qm_InvalidLoad_UnlikeGrids : PySem.W.mroIn K Z.C_InvalidLoad (.ref Z.C_UnlikeGrids) = some false
  qm_InvalidNumber_UnlikeGrids : PySem.W.mroIn K Z.C_InvalidNumber (.ref Z.C_UnlikeGrids) = some false
  qm_InvalidOperation_UnlikeGrids : PySem.W.mroIn K Z.C_InvalidOperation (.ref Z.C_UnlikeGrids) = some false
  qm_InvalidSize_UnlikeGrids : PySem.W.mroIn K Z.C_InvalidSize (.ref Z.C_UnlikeGrids) = some false
  qm_InvalidText_UnlikeGrids : PySem.W.mroIn K Z.C_InvalidText (.ref Z.C_UnlikeGrids) = some false
  qm_InvalidWord_UnlikeGrids : PySem.W.mroIn K Z.C_InvalidWord (.ref Z.C_UnlikeGrids) = some false
  qm_LaceError_UnlikeGrids : PySem.W.mroIn K Z.C_LaceError (.ref Z.C_UnlikeGrids) = some false
  qm_Nothing_UnlikeGrids : PySem.W.mroIn K Z.C_Nothing (.ref Z.C_UnlikeGrids) = some false
  qm_OverBudget_UnlikeGrids : PySem.W.mroIn K Z.C_OverBudget (.ref Z.C_UnlikeGrids) = some false
  qm_TooMany_UnlikeGrids : PySem.W.mroIn K Z.C_TooMany (.ref Z.C_UnlikeGrids) = some false
  ks_UnlikeGrids : PySem.W.mroIn K Z.C_UnlikeGrids (.ref Z.C_UnlikeGrids) = some true
  ky_UnlikeGrids : PySem.W.typeIn K (.ref Z.C_UnlikeGrids) = some (.type "type")
  qm_InvalidBits_ValueError : PySem.W.mroIn K Z.C_InvalidBits (.type "ValueError") = some true
  qm_InvalidBox_ValueError : PySem.W.mroIn K Z.C_InvalidBox (.type "ValueError") = some true
  qm_InvalidBoxes_ValueError : PySem.W.mroIn K Z.C_InvalidBoxes (.type "ValueError") = some true
  qm_InvalidBudget_ValueError : PySem.W.mroIn K Z.C_InvalidBudget (.type "ValueError") = some true
  qm_InvalidCell_ValueError : PySem.W.mroIn K Z.C_InvalidCell (.type "ValueError") = some true
  qm_InvalidCommand_ValueError : PySem.W.mroIn K Z.C_InvalidCommand (.type "ValueError") = some true
  qm_InvalidIndex_ValueError : PySem.W.mroIn K Z.C_InvalidIndex (.type "ValueError") = some true
  qm_InvalidKey_ValueError : PySem.W.mroIn K Z.C_InvalidKey (.type "ValueError") = some true
  qm_InvalidLayout_ValueError : PySem.W.mroIn K Z.C_InvalidLayout (.type "ValueError") = some true
  qm_InvalidLoad_ValueError : PySem.W.mroIn K Z.C_InvalidLoad (.type "ValueError") = some true
  qm_InvalidNumber_ValueError : PySem.W.mroIn K Z.C_InvalidNumber (.type "ValueError") = some true
  qm_InvalidOperation_ValueError : PySem.W.mroIn K Z.C_InvalidOperation (.type "ValueError") = some true
  qm_InvalidSize_ValueError : PySem.W.mroIn K Z.C_InvalidSize (.type "ValueError") = some true
  qm_InvalidText_ValueError : PySem.W.mroIn K Z.C_InvalidText (.type "ValueError") = some true
  qm_InvalidWord_ValueError : PySem.W.mroIn K Z.C_InvalidWord (.type "ValueError") = some true
  qm_LaceError_ValueError : PySem.W.mroIn K Z.C_LaceError (.type "ValueError") = some true
  qm_Nothing_ValueError : PySem.W.mroIn K Z.C_Nothing (.type "ValueError") = some true
  qm_OverBudget_ValueError : PySem.W.mroIn K Z.C_OverBudget (.type "ValueError") = some true
  qm_TooMany_ValueError : PySem.W.mroIn K Z.C_TooMany (.type "ValueError") = some true
  qm_UnlikeGrids_ValueError : PySem.W.mroIn K Z.C_UnlikeGrids (.type "ValueError") = some true
  z_ValueError : mg "ValueError" = none
  z_enumerate : mg "enumerate" = none
  z_int : mg "int" = none
  z_isinstance : mg "isinstance" = none
  z_len : mg "len" = none
  z_max : mg "max" = none
  z_range : mg "range" = none
  ox_InvalidBoxes : Lk.OexF Z.P_ K Z.C_InvalidBoxes Z.fo_InvalidBoxes Z.do_InvalidBoxes "item" "not a valid list of boxes, item: " "item"
  ox_InvalidLoad : Lk.OexF Z.P_ K Z.C_InvalidLoad Z.fo_InvalidLoad Z.do_InvalidLoad "item" "not a valid load, item: " "item"
  ox_InvalidText : Lk.OexF Z.P_ K Z.C_InvalidText Z.fo_InvalidText Z.do_InvalidText "part" "not the text of a load, part: " "part"
  ox_OverBudget : Lk.OexF Z.P_ K Z.C_OverBudget Z.fo_OverBudget Z.do_OverBudget "total" "above the budget, runs: " "total"
  ox_TooMany : Lk.OexF Z.P_ K Z.C_TooMany Z.fo_TooMany Z.do_TooMany "limit" "no more items than " "limit"
  z_super : mg "super" = none
def caZ (Z : Ads) (n : String) : Addr := if n = "InvalidBits" then Z.C_InvalidBits else if n = "InvalidBox" then Z.C_InvalidBox else if n = "InvalidBoxes" then Z.C_InvalidBoxes else if n = "InvalidBudget" then Z.C_InvalidBudget else if n = "InvalidCell" then Z.C_InvalidCell else if n = "InvalidCommand" then Z.C_InvalidCommand else if n = "InvalidIndex" then Z.C_InvalidIndex else if n = "InvalidKey" then Z.C_InvalidKey else if n = "InvalidLayout" then Z.C_InvalidLayout else if n = "InvalidLoad" then Z.C_InvalidLoad else if n = "InvalidNumber" then Z.C_InvalidNumber else if n = "InvalidOperation" then Z.C_InvalidOperation else if n = "InvalidSize" then Z.C_InvalidSize else if n = "InvalidText" then Z.C_InvalidText else if n = "InvalidWord" then Z.C_InvalidWord else if n = "LaceError" then Z.C_LaceError else if n = "Nothing" then Z.C_Nothing else if n = "OverBudget" then Z.C_OverBudget else if n = "TooMany" then Z.C_TooMany else if n = "UnlikeGrids" then Z.C_UnlikeGrids else 0
abbrev ga (K : PySem.W.Frag) (Z : Ads) : Ga := ⟨K, caZ Z⟩
theorem ca_InvalidBits {K : PySem.W.Frag} {Z : Ads} : (ga K Z).ca "InvalidBits" = Z.C_InvalidBits := by simp [ga, caZ]
theorem ca_InvalidBox {K : PySem.W.Frag} {Z : Ads} : (ga K Z).ca "InvalidBox" = Z.C_InvalidBox := by simp [ga, caZ]
theorem ca_InvalidBoxes {K : PySem.W.Frag} {Z : Ads} : (ga K Z).ca "InvalidBoxes" = Z.C_InvalidBoxes := by simp [ga, caZ]
theorem ca_InvalidBudget {K : PySem.W.Frag} {Z : Ads} : (ga K Z).ca "InvalidBudget" = Z.C_InvalidBudget := by simp [ga, caZ]
theorem ca_InvalidCell {K : PySem.W.Frag} {Z : Ads} : (ga K Z).ca "InvalidCell" = Z.C_InvalidCell := by simp [ga, caZ]
theorem ca_InvalidCommand {K : PySem.W.Frag} {Z : Ads} : (ga K Z).ca "InvalidCommand" = Z.C_InvalidCommand := by simp [ga, caZ]
theorem ca_InvalidIndex {K : PySem.W.Frag} {Z : Ads} : (ga K Z).ca "InvalidIndex" = Z.C_InvalidIndex := by simp [ga, caZ]
theorem ca_InvalidKey {K : PySem.W.Frag} {Z : Ads} : (ga K Z).ca "InvalidKey" = Z.C_InvalidKey := by simp [ga, caZ]
theorem ca_InvalidLayout {K : PySem.W.Frag} {Z : Ads} : (ga K Z).ca "InvalidLayout" = Z.C_InvalidLayout := by simp [ga, caZ]
theorem ca_InvalidLoad {K : PySem.W.Frag} {Z : Ads} : (ga K Z).ca "InvalidLoad" = Z.C_InvalidLoad := by simp [ga, caZ]
theorem ca_InvalidNumber {K : PySem.W.Frag} {Z : Ads} : (ga K Z).ca "InvalidNumber" = Z.C_InvalidNumber := by simp [ga, caZ]
theorem ca_InvalidOperation {K : PySem.W.Frag} {Z : Ads} : (ga K Z).ca "InvalidOperation" = Z.C_InvalidOperation := by simp [ga, caZ]
theorem ca_InvalidSize {K : PySem.W.Frag} {Z : Ads} : (ga K Z).ca "InvalidSize" = Z.C_InvalidSize := by simp [ga, caZ]
theorem ca_InvalidText {K : PySem.W.Frag} {Z : Ads} : (ga K Z).ca "InvalidText" = Z.C_InvalidText := by simp [ga, caZ]
theorem ca_InvalidWord {K : PySem.W.Frag} {Z : Ads} : (ga K Z).ca "InvalidWord" = Z.C_InvalidWord := by simp [ga, caZ]
theorem ca_LaceError {K : PySem.W.Frag} {Z : Ads} : (ga K Z).ca "LaceError" = Z.C_LaceError := by simp [ga, caZ]
theorem ca_Nothing {K : PySem.W.Frag} {Z : Ads} : (ga K Z).ca "Nothing" = Z.C_Nothing := by simp [ga, caZ]
theorem ca_OverBudget {K : PySem.W.Frag} {Z : Ads} : (ga K Z).ca "OverBudget" = Z.C_OverBudget := by simp [ga, caZ]
theorem ca_TooMany {K : PySem.W.Frag} {Z : Ads} : (ga K Z).ca "TooMany" = Z.C_TooMany := by simp [ga, caZ]
theorem ca_UnlikeGrids {K : PySem.W.Frag} {Z : Ads} : (ga K Z).ca "UnlikeGrids" = Z.C_UnlikeGrids := by simp [ga, caZ]
theorem dtc_InvalidBits {K : PySem.W.Frag} {Z : Ads} {H : Hp} : Dt (ga K Z) H (.ref Z.C_InvalidBits) (.cls "InvalidBits") := by
  have h := Dt.cls (Γ := ga K Z) (H := H) "InvalidBits"
  rw [ca_InvalidBits] at h
  exact h
theorem dtc_InvalidBox {K : PySem.W.Frag} {Z : Ads} {H : Hp} : Dt (ga K Z) H (.ref Z.C_InvalidBox) (.cls "InvalidBox") := by
  have h := Dt.cls (Γ := ga K Z) (H := H) "InvalidBox"
  rw [ca_InvalidBox] at h
  exact h
theorem dtc_InvalidBoxes {K : PySem.W.Frag} {Z : Ads} {H : Hp} : Dt (ga K Z) H (.ref Z.C_InvalidBoxes) (.cls "InvalidBoxes") := by
  have h := Dt.cls (Γ := ga K Z) (H := H) "InvalidBoxes"
  rw [ca_InvalidBoxes] at h
  exact h
theorem dtc_InvalidBudget {K : PySem.W.Frag} {Z : Ads} {H : Hp} : Dt (ga K Z) H (.ref Z.C_InvalidBudget) (.cls "InvalidBudget") := by
  have h := Dt.cls (Γ := ga K Z) (H := H) "InvalidBudget"
  rw [ca_InvalidBudget] at h
  exact h
theorem dtc_InvalidCell {K : PySem.W.Frag} {Z : Ads} {H : Hp} : Dt (ga K Z) H (.ref Z.C_InvalidCell) (.cls "InvalidCell") := by
  have h := Dt.cls (Γ := ga K Z) (H := H) "InvalidCell"
  rw [ca_InvalidCell] at h
  exact h
theorem dtc_InvalidCommand {K : PySem.W.Frag} {Z : Ads} {H : Hp} : Dt (ga K Z) H (.ref Z.C_InvalidCommand) (.cls "InvalidCommand") := by
  have h := Dt.cls (Γ := ga K Z) (H := H) "InvalidCommand"
  rw [ca_InvalidCommand] at h
  exact h
theorem dtc_InvalidIndex {K : PySem.W.Frag} {Z : Ads} {H : Hp} : Dt (ga K Z) H (.ref Z.C_InvalidIndex) (.cls "InvalidIndex") := by
  have h := Dt.cls (Γ := ga K Z) (H := H) "InvalidIndex"
  rw [ca_InvalidIndex] at h
  exact h
theorem dtc_InvalidKey {K : PySem.W.Frag} {Z : Ads} {H : Hp} : Dt (ga K Z) H (.ref Z.C_InvalidKey) (.cls "InvalidKey") := by
  have h := Dt.cls (Γ := ga K Z) (H := H) "InvalidKey"
  rw [ca_InvalidKey] at h
  exact h
theorem dtc_InvalidLayout {K : PySem.W.Frag} {Z : Ads} {H : Hp} : Dt (ga K Z) H (.ref Z.C_InvalidLayout) (.cls "InvalidLayout") := by
  have h := Dt.cls (Γ := ga K Z) (H := H) "InvalidLayout"
  rw [ca_InvalidLayout] at h
  exact h
theorem dtc_InvalidLoad {K : PySem.W.Frag} {Z : Ads} {H : Hp} : Dt (ga K Z) H (.ref Z.C_InvalidLoad) (.cls "InvalidLoad") := by
  have h := Dt.cls (Γ := ga K Z) (H := H) "InvalidLoad"
  rw [ca_InvalidLoad] at h
  exact h
theorem dtc_InvalidNumber {K : PySem.W.Frag} {Z : Ads} {H : Hp} : Dt (ga K Z) H (.ref Z.C_InvalidNumber) (.cls "InvalidNumber") := by
  have h := Dt.cls (Γ := ga K Z) (H := H) "InvalidNumber"
  rw [ca_InvalidNumber] at h
  exact h
theorem dtc_InvalidOperation {K : PySem.W.Frag} {Z : Ads} {H : Hp} : Dt (ga K Z) H (.ref Z.C_InvalidOperation) (.cls "InvalidOperation") := by
  have h := Dt.cls (Γ := ga K Z) (H := H) "InvalidOperation"
  rw [ca_InvalidOperation] at h
  exact h
theorem dtc_InvalidSize {K : PySem.W.Frag} {Z : Ads} {H : Hp} : Dt (ga K Z) H (.ref Z.C_InvalidSize) (.cls "InvalidSize") := by
  have h := Dt.cls (Γ := ga K Z) (H := H) "InvalidSize"
  rw [ca_InvalidSize] at h
  exact h
theorem dtc_InvalidText {K : PySem.W.Frag} {Z : Ads} {H : Hp} : Dt (ga K Z) H (.ref Z.C_InvalidText) (.cls "InvalidText") := by
  have h := Dt.cls (Γ := ga K Z) (H := H) "InvalidText"
  rw [ca_InvalidText] at h
  exact h
theorem dtc_InvalidWord {K : PySem.W.Frag} {Z : Ads} {H : Hp} : Dt (ga K Z) H (.ref Z.C_InvalidWord) (.cls "InvalidWord") := by
  have h := Dt.cls (Γ := ga K Z) (H := H) "InvalidWord"
  rw [ca_InvalidWord] at h
  exact h
theorem dtc_LaceError {K : PySem.W.Frag} {Z : Ads} {H : Hp} : Dt (ga K Z) H (.ref Z.C_LaceError) (.cls "LaceError") := by
  have h := Dt.cls (Γ := ga K Z) (H := H) "LaceError"
  rw [ca_LaceError] at h
  exact h
theorem dtc_Nothing {K : PySem.W.Frag} {Z : Ads} {H : Hp} : Dt (ga K Z) H (.ref Z.C_Nothing) (.cls "Nothing") := by
  have h := Dt.cls (Γ := ga K Z) (H := H) "Nothing"
  rw [ca_Nothing] at h
  exact h
theorem dtc_OverBudget {K : PySem.W.Frag} {Z : Ads} {H : Hp} : Dt (ga K Z) H (.ref Z.C_OverBudget) (.cls "OverBudget") := by
  have h := Dt.cls (Γ := ga K Z) (H := H) "OverBudget"
  rw [ca_OverBudget] at h
  exact h
theorem dtc_TooMany {K : PySem.W.Frag} {Z : Ads} {H : Hp} : Dt (ga K Z) H (.ref Z.C_TooMany) (.cls "TooMany") := by
  have h := Dt.cls (Γ := ga K Z) (H := H) "TooMany"
  rw [ca_TooMany] at h
  exact h
theorem dtc_UnlikeGrids {K : PySem.W.Frag} {Z : Ads} {H : Hp} : Dt (ga K Z) H (.ref Z.C_UnlikeGrids) (.cls "UnlikeGrids") := by
  have h := Dt.cls (Γ := ga K Z) (H := H) "UnlikeGrids"
  rw [ca_UnlikeGrids] at h
  exact h

theorem ec_InvalidBits {K : PySem.W.Frag} {mg : Str → Option Value} {Z : Ads} (T : Top K mg Z) : ExcC K ((ga K Z).ca "InvalidBits") := by rw [ca_InvalidBits]; exact ⟨T.ea_InvalidBits, T.eb_InvalidBits, T.rb_InvalidBits, T.ec_InvalidBits, T.ed_InvalidBits, T.e_get, T.e_tak, T.ee_InvalidBits⟩
theorem ec_InvalidBox {K : PySem.W.Frag} {mg : Str → Option Value} {Z : Ads} (T : Top K mg Z) : ExcC K ((ga K Z).ca "InvalidBox") := by rw [ca_InvalidBox]; exact ⟨T.ea_InvalidBox, T.eb_InvalidBox, T.rb_InvalidBox, T.ec_InvalidBox, T.ed_InvalidBox, T.e_get, T.e_tak, T.ee_InvalidBox⟩
theorem ec_InvalidBoxes {K : PySem.W.Frag} {mg : Str → Option Value} {Z : Ads} (T : Top K mg Z) : ExcC K ((ga K Z).ca "InvalidBoxes") := by rw [ca_InvalidBoxes]; exact ⟨T.ea_InvalidBoxes, T.eb_InvalidBoxes, T.rb_InvalidBoxes, T.ec_InvalidBoxes, T.ed_InvalidBoxes, T.e_get, T.e_tak, T.ee_InvalidBoxes⟩
theorem ec_InvalidBudget {K : PySem.W.Frag} {mg : Str → Option Value} {Z : Ads} (T : Top K mg Z) : ExcC K ((ga K Z).ca "InvalidBudget") := by rw [ca_InvalidBudget]; exact ⟨T.ea_InvalidBudget, T.eb_InvalidBudget, T.rb_InvalidBudget, T.ec_InvalidBudget, T.ed_InvalidBudget, T.e_get, T.e_tak, T.ee_InvalidBudget⟩
theorem ec_InvalidCell {K : PySem.W.Frag} {mg : Str → Option Value} {Z : Ads} (T : Top K mg Z) : ExcC K ((ga K Z).ca "InvalidCell") := by rw [ca_InvalidCell]; exact ⟨T.ea_InvalidCell, T.eb_InvalidCell, T.rb_InvalidCell, T.ec_InvalidCell, T.ed_InvalidCell, T.e_get, T.e_tak, T.ee_InvalidCell⟩
theorem ec_InvalidCommand {K : PySem.W.Frag} {mg : Str → Option Value} {Z : Ads} (T : Top K mg Z) : ExcC K ((ga K Z).ca "InvalidCommand") := by rw [ca_InvalidCommand]; exact ⟨T.ea_InvalidCommand, T.eb_InvalidCommand, T.rb_InvalidCommand, T.ec_InvalidCommand, T.ed_InvalidCommand, T.e_get, T.e_tak, T.ee_InvalidCommand⟩
theorem ec_InvalidIndex {K : PySem.W.Frag} {mg : Str → Option Value} {Z : Ads} (T : Top K mg Z) : ExcC K ((ga K Z).ca "InvalidIndex") := by rw [ca_InvalidIndex]; exact ⟨T.ea_InvalidIndex, T.eb_InvalidIndex, T.rb_InvalidIndex, T.ec_InvalidIndex, T.ed_InvalidIndex, T.e_get, T.e_tak, T.ee_InvalidIndex⟩
theorem ec_InvalidKey {K : PySem.W.Frag} {mg : Str → Option Value} {Z : Ads} (T : Top K mg Z) : ExcC K ((ga K Z).ca "InvalidKey") := by rw [ca_InvalidKey]; exact ⟨T.ea_InvalidKey, T.eb_InvalidKey, T.rb_InvalidKey, T.ec_InvalidKey, T.ed_InvalidKey, T.e_get, T.e_tak, T.ee_InvalidKey⟩
theorem ec_InvalidLayout {K : PySem.W.Frag} {mg : Str → Option Value} {Z : Ads} (T : Top K mg Z) : ExcC K ((ga K Z).ca "InvalidLayout") := by rw [ca_InvalidLayout]; exact ⟨T.ea_InvalidLayout, T.eb_InvalidLayout, T.rb_InvalidLayout, T.ec_InvalidLayout, T.ed_InvalidLayout, T.e_get, T.e_tak, T.ee_InvalidLayout⟩
theorem ec_InvalidLoad {K : PySem.W.Frag} {mg : Str → Option Value} {Z : Ads} (T : Top K mg Z) : ExcC K ((ga K Z).ca "InvalidLoad") := by rw [ca_InvalidLoad]; exact ⟨T.ea_InvalidLoad, T.eb_InvalidLoad, T.rb_InvalidLoad, T.ec_InvalidLoad, T.ed_InvalidLoad, T.e_get, T.e_tak, T.ee_InvalidLoad⟩
theorem ec_InvalidNumber {K : PySem.W.Frag} {mg : Str → Option Value} {Z : Ads} (T : Top K mg Z) : ExcC K ((ga K Z).ca "InvalidNumber") := by rw [ca_InvalidNumber]; exact ⟨T.ea_InvalidNumber, T.eb_InvalidNumber, T.rb_InvalidNumber, T.ec_InvalidNumber, T.ed_InvalidNumber, T.e_get, T.e_tak, T.ee_InvalidNumber⟩
theorem ec_InvalidOperation {K : PySem.W.Frag} {mg : Str → Option Value} {Z : Ads} (T : Top K mg Z) : ExcC K ((ga K Z).ca "InvalidOperation") := by rw [ca_InvalidOperation]; exact ⟨T.ea_InvalidOperation, T.eb_InvalidOperation, T.rb_InvalidOperation, T.ec_InvalidOperation, T.ed_InvalidOperation, T.e_get, T.e_tak, T.ee_InvalidOperation⟩
theorem ec_InvalidSize {K : PySem.W.Frag} {mg : Str → Option Value} {Z : Ads} (T : Top K mg Z) : ExcC K ((ga K Z).ca "InvalidSize") := by rw [ca_InvalidSize]; exact ⟨T.ea_InvalidSize, T.eb_InvalidSize, T.rb_InvalidSize, T.ec_InvalidSize, T.ed_InvalidSize, T.e_get, T.e_tak, T.ee_InvalidSize⟩
theorem ec_InvalidText {K : PySem.W.Frag} {mg : Str → Option Value} {Z : Ads} (T : Top K mg Z) : ExcC K ((ga K Z).ca "InvalidText") := by rw [ca_InvalidText]; exact ⟨T.ea_InvalidText, T.eb_InvalidText, T.rb_InvalidText, T.ec_InvalidText, T.ed_InvalidText, T.e_get, T.e_tak, T.ee_InvalidText⟩
theorem ec_InvalidWord {K : PySem.W.Frag} {mg : Str → Option Value} {Z : Ads} (T : Top K mg Z) : ExcC K ((ga K Z).ca "InvalidWord") := by rw [ca_InvalidWord]; exact ⟨T.ea_InvalidWord, T.eb_InvalidWord, T.rb_InvalidWord, T.ec_InvalidWord, T.ed_InvalidWord, T.e_get, T.e_tak, T.ee_InvalidWord⟩
theorem ec_LaceError {K : PySem.W.Frag} {mg : Str → Option Value} {Z : Ads} (T : Top K mg Z) : ExcC K ((ga K Z).ca "LaceError") := by rw [ca_LaceError]; exact ⟨T.ea_LaceError, T.eb_LaceError, T.rb_LaceError, T.ec_LaceError, T.ed_LaceError, T.e_get, T.e_tak, T.ee_LaceError⟩
theorem ec_Nothing {K : PySem.W.Frag} {mg : Str → Option Value} {Z : Ads} (T : Top K mg Z) : ExcC K ((ga K Z).ca "Nothing") := by rw [ca_Nothing]; exact ⟨T.ea_Nothing, T.eb_Nothing, T.rb_Nothing, T.ec_Nothing, T.ed_Nothing, T.e_get, T.e_tak, T.ee_Nothing⟩
theorem ec_OverBudget {K : PySem.W.Frag} {mg : Str → Option Value} {Z : Ads} (T : Top K mg Z) : ExcC K ((ga K Z).ca "OverBudget") := by rw [ca_OverBudget]; exact ⟨T.ea_OverBudget, T.eb_OverBudget, T.rb_OverBudget, T.ec_OverBudget, T.ed_OverBudget, T.e_get, T.e_tak, T.ee_OverBudget⟩
theorem ec_TooMany {K : PySem.W.Frag} {mg : Str → Option Value} {Z : Ads} (T : Top K mg Z) : ExcC K ((ga K Z).ca "TooMany") := by rw [ca_TooMany]; exact ⟨T.ea_TooMany, T.eb_TooMany, T.rb_TooMany, T.ec_TooMany, T.ed_TooMany, T.e_get, T.e_tak, T.ee_TooMany⟩
theorem ec_UnlikeGrids {K : PySem.W.Frag} {mg : Str → Option Value} {Z : Ads} (T : Top K mg Z) : ExcC K ((ga K Z).ca "UnlikeGrids") := by rw [ca_UnlikeGrids]; exact ⟨T.ea_UnlikeGrids, T.eb_UnlikeGrids, T.rb_UnlikeGrids, T.ec_UnlikeGrids, T.ed_UnlikeGrids, T.e_get, T.e_tak, T.ee_UnlikeGrids⟩
def xtab_InvalidBits : XTab := [("InvalidBits", (false, "InvalidBits"), true), ("InvalidBits", (false, "InvalidBox"), false), ("InvalidBits", (false, "InvalidBoxes"), false), ("InvalidBits", (false, "InvalidBudget"), false), ("InvalidBits", (false, "InvalidCell"), false), ("InvalidBits", (false, "InvalidCommand"), false), ("InvalidBits", (false, "InvalidIndex"), false), ("InvalidBits", (false, "InvalidKey"), false), ("InvalidBits", (false, "InvalidLayout"), false), ("InvalidBits", (false, "InvalidLoad"), false), ("InvalidBits", (false, "InvalidNumber"), false), ("InvalidBits", (false, "InvalidOperation"), false), ("InvalidBits", (false, "InvalidSize"), false), ("InvalidBits", (false, "InvalidText"), false), ("InvalidBits", (false, "InvalidWord"), false), ("InvalidBits", (false, "LaceError"), true), ("InvalidBits", (false, "Nothing"), false), ("InvalidBits", (false, "OverBudget"), false), ("InvalidBits", (false, "TooMany"), false), ("InvalidBits", (false, "UnlikeGrids"), false), ("InvalidBits", (true, "ValueError"), true)]
theorem xq_InvalidBits {K : PySem.W.Frag} {mg : Str → Option Value} {Z : Ads} (T : Top K mg Z) : xtab_InvalidBits.Ok (ga K Z) :=
  XTab.ok_cons (by show PySem.W.kitOne K (.ref ((ga K Z).ca "InvalidBits")) (.ref ((ga K Z).ca "InvalidBits")) = _; rw [ca_InvalidBits]; exact Lk.kitOne_self _ _) (ec_InvalidBits T) <| XTab.ok_cons (by show PySem.W.kitOne K (.ref ((ga K Z).ca "InvalidBits")) (.ref ((ga K Z).ca "InvalidBox")) = _; rw [ca_InvalidBits, ca_InvalidBox]; exact kit_kc T.qm_InvalidBits_InvalidBox T.ks_InvalidBox T.ky_InvalidBox) (ec_InvalidBits T) <| XTab.ok_cons (by show PySem.W.kitOne K (.ref ((ga K Z).ca "InvalidBits")) (.ref ((ga K Z).ca "InvalidBoxes")) = _; rw [ca_InvalidBits, ca_InvalidBoxes]; exact kit_kc T.qm_InvalidBits_InvalidBoxes T.ks_InvalidBoxes T.ky_InvalidBoxes) (ec_InvalidBits T) <| XTab.ok_cons (by show PySem.W.kitOne K (.ref ((ga K Z).ca "InvalidBits")) (.ref ((ga K Z).ca "InvalidBudget")) = _; rw [ca_InvalidBits, ca_InvalidBudget]; exact kit_kc T.qm_InvalidBits_InvalidBudget T.ks_InvalidBudget T.ky_InvalidBudget) (ec_InvalidBits T) <| XTab.ok_cons (by show PySem.W.kitOne K (.ref ((ga K Z).ca "InvalidBits")) (.ref ((ga K Z).ca "InvalidCell")) = _; rw [ca_InvalidBits, ca_InvalidCell]; exact kit_kc T.qm_InvalidBits_InvalidCell T.ks_InvalidCell T.ky_InvalidCell) (ec_InvalidBits T) <| XTab.ok_cons (by show PySem.W.kitOne K (.ref ((ga K Z).ca "InvalidBits")) (.ref ((ga K Z).ca "InvalidCommand")) = _; rw [ca_InvalidBits, ca_InvalidCommand]; exact kit_kc T.qm_InvalidBits_InvalidCommand T.ks_InvalidCommand T.ky_InvalidCommand) (ec_InvalidBits T) <| XTab.ok_cons (by show PySem.W.kitOne K (.ref ((ga K Z).ca "InvalidBits")) (.ref ((ga K Z).ca "InvalidIndex")) = _; rw [ca_InvalidBits, ca_InvalidIndex]; exact kit_kc T.qm_InvalidBits_InvalidIndex T.ks_InvalidIndex T.ky_InvalidIndex) (ec_InvalidBits T) <| XTab.ok_cons (by show PySem.W.kitOne K (.ref ((ga K Z).ca "InvalidBits")) (.ref ((ga K Z).ca "InvalidKey")) = _; rw [ca_InvalidBits, ca_InvalidKey]; exact kit_kc T.qm_InvalidBits_InvalidKey T.ks_InvalidKey T.ky_InvalidKey) (ec_InvalidBits T) <| XTab.ok_cons (by show PySem.W.kitOne K (.ref ((ga K Z).ca "InvalidBits")) (.ref ((ga K Z).ca "InvalidLayout")) = _; rw [ca_InvalidBits, ca_InvalidLayout]; exact kit_kc T.qm_InvalidBits_InvalidLayout T.ks_InvalidLayout T.ky_InvalidLayout) (ec_InvalidBits T) <| XTab.ok_cons (by show PySem.W.kitOne K (.ref ((ga K Z).ca "InvalidBits")) (.ref ((ga K Z).ca "InvalidLoad")) = _; rw [ca_InvalidBits, ca_InvalidLoad]; exact kit_kc T.qm_InvalidBits_InvalidLoad T.ks_InvalidLoad T.ky_InvalidLoad) (ec_InvalidBits T) <| XTab.ok_cons (by show PySem.W.kitOne K (.ref ((ga K Z).ca "InvalidBits")) (.ref ((ga K Z).ca "InvalidNumber")) = _; rw [ca_InvalidBits, ca_InvalidNumber]; exact kit_kc T.qm_InvalidBits_InvalidNumber T.ks_InvalidNumber T.ky_InvalidNumber) (ec_InvalidBits T) <| XTab.ok_cons (by show PySem.W.kitOne K (.ref ((ga K Z).ca "InvalidBits")) (.ref ((ga K Z).ca "InvalidOperation")) = _; rw [ca_InvalidBits, ca_InvalidOperation]; exact kit_kc T.qm_InvalidBits_InvalidOperation T.ks_InvalidOperation T.ky_InvalidOperation) (ec_InvalidBits T) <| XTab.ok_cons (by show PySem.W.kitOne K (.ref ((ga K Z).ca "InvalidBits")) (.ref ((ga K Z).ca "InvalidSize")) = _; rw [ca_InvalidBits, ca_InvalidSize]; exact kit_kc T.qm_InvalidBits_InvalidSize T.ks_InvalidSize T.ky_InvalidSize) (ec_InvalidBits T) <| XTab.ok_cons (by show PySem.W.kitOne K (.ref ((ga K Z).ca "InvalidBits")) (.ref ((ga K Z).ca "InvalidText")) = _; rw [ca_InvalidBits, ca_InvalidText]; exact kit_kc T.qm_InvalidBits_InvalidText T.ks_InvalidText T.ky_InvalidText) (ec_InvalidBits T) <| XTab.ok_cons (by show PySem.W.kitOne K (.ref ((ga K Z).ca "InvalidBits")) (.ref ((ga K Z).ca "InvalidWord")) = _; rw [ca_InvalidBits, ca_InvalidWord]; exact kit_kc T.qm_InvalidBits_InvalidWord T.ks_InvalidWord T.ky_InvalidWord) (ec_InvalidBits T) <| XTab.ok_cons (by show PySem.W.kitOne K (.ref ((ga K Z).ca "InvalidBits")) (.ref ((ga K Z).ca "LaceError")) = _; rw [ca_InvalidBits, ca_LaceError]; exact kit_kc T.qm_InvalidBits_LaceError T.ks_LaceError T.ky_LaceError) (ec_InvalidBits T) <| XTab.ok_cons (by show PySem.W.kitOne K (.ref ((ga K Z).ca "InvalidBits")) (.ref ((ga K Z).ca "Nothing")) = _; rw [ca_InvalidBits, ca_Nothing]; exact kit_kc T.qm_InvalidBits_Nothing T.ks_Nothing T.ky_Nothing) (ec_InvalidBits T) <| XTab.ok_cons (by show PySem.W.kitOne K (.ref ((ga K Z).ca "InvalidBits")) (.ref ((ga K Z).ca "OverBudget")) = _; rw [ca_InvalidBits, ca_OverBudget]; exact kit_kc T.qm_InvalidBits_OverBudget T.ks_OverBudget T.ky_OverBudget) (ec_InvalidBits T) <| XTab.ok_cons (by show PySem.W.kitOne K (.ref ((ga K Z).ca "InvalidBits")) (.ref ((ga K Z).ca "TooMany")) = _; rw [ca_InvalidBits, ca_TooMany]; exact kit_kc T.qm_InvalidBits_TooMany T.ks_TooMany T.ky_TooMany) (ec_InvalidBits T) <| XTab.ok_cons (by show PySem.W.kitOne K (.ref ((ga K Z).ca "InvalidBits")) (.ref ((ga K Z).ca "UnlikeGrids")) = _; rw [ca_InvalidBits, ca_UnlikeGrids]; exact kit_kc T.qm_InvalidBits_UnlikeGrids T.ks_UnlikeGrids T.ky_UnlikeGrids) (ec_InvalidBits T) <| XTab.ok_cons (by rw [ca_InvalidBits]; exact kit_kt T.qm_InvalidBits_ValueError (by decide +kernel)) (ec_InvalidBits T) <| XTab.ok_nil
def xtab_InvalidBox : XTab := [("InvalidBox", (false, "InvalidBits"), false), ("InvalidBox", (false, "InvalidBox"), true), ("InvalidBox", (false, "InvalidBoxes"), false), ("InvalidBox", (false, "InvalidBudget"), false), ("InvalidBox", (false, "InvalidCell"), false), ("InvalidBox", (false, "InvalidCommand"), false), ("InvalidBox", (false, "InvalidIndex"), false), ("InvalidBox", (false, "InvalidKey"), false), ("InvalidBox", (false, "InvalidLayout"), false), ("InvalidBox", (false, "InvalidLoad"), false), ("InvalidBox", (false, "InvalidNumber"), false), ("InvalidBox", (false, "InvalidOperation"), false), ("InvalidBox", (false, "InvalidSize"), false), ("InvalidBox", (false, "InvalidText"), false), ("InvalidBox", (false, "InvalidWord"), false), ("InvalidBox", (false, "LaceError"), true), ("InvalidBox", (false, "Nothing"), false), ("InvalidBox", (false, "OverBudget"), false), ("InvalidBox", (false, "TooMany"), false), ("InvalidBox", (false, "UnlikeGrids"), false), ("InvalidBox", (true, "ValueError"), true)]
theorem xq_InvalidBox {K : PySem.W.Frag} {mg : Str → Option Value} {Z : Ads} (T : Top K mg Z) : xtab_InvalidBox.Ok (ga K Z) :=
  XTab.ok_cons (by show PySem.W.kitOne K (.ref ((ga K Z).ca "InvalidBox")) (.ref ((ga K Z).ca "InvalidBits")) = _; rw [ca_InvalidBox, ca_InvalidBits]; exact kit_kc T.qm_InvalidBox_InvalidBits T.ks_InvalidBits T.ky_InvalidBits) (ec_InvalidBox T) <| XTab.ok_cons (by show PySem.W.kitOne K (.ref ((ga K Z).ca "InvalidBox")) (.ref ((ga K Z).ca "InvalidBox")) = _; rw [ca_InvalidBox]; exact Lk.kitOne_self _ _) (ec_InvalidBox T) <| XTab.ok_cons (by show PySem.W.kitOne K (.ref ((ga K Z).ca "InvalidBox")) (.ref ((ga K Z).ca "InvalidBoxes")) = _; rw [ca_InvalidBox, ca_InvalidBoxes]; exact kit_kc T.qm_InvalidBox_InvalidBoxes T.ks_InvalidBoxes T.ky_InvalidBoxes) (ec_InvalidBox T) <| XTab.ok_cons (by show PySem.W.kitOne K (.ref ((ga K Z).ca "InvalidBox")) (.ref ((ga K Z).ca "InvalidBudget")) = _; rw [ca_InvalidBox, ca_InvalidBudget]; exact kit_kc T.qm_InvalidBox_InvalidBudget T.ks_InvalidBudget T.ky_InvalidBudget) (ec_InvalidBox T) <| XTab.ok_cons (by show PySem.W.kitOne K (.ref ((ga K Z).ca "InvalidBox")) (.ref ((ga K Z).ca "InvalidCell")) = _; rw [ca_InvalidBox, ca_InvalidCell]; exact kit_kc T.qm_InvalidBox_InvalidCell T.ks_InvalidCell T.ky_InvalidCell) (ec_InvalidBox T) <| XTab.ok_cons (by show PySem.W.kitOne K (.ref ((ga K Z).ca "InvalidBox")) (.ref ((ga K Z).ca "InvalidCommand")) = _; rw [ca_InvalidBox, ca_InvalidCommand]; exact kit_kc T.qm_InvalidBox_InvalidCommand T.ks_InvalidCommand T.ky_InvalidCommand) (ec_InvalidBox T) <| XTab.ok_cons (by show PySem.W.kitOne K (.ref ((ga K Z).ca "InvalidBox")) (.ref ((ga K Z).ca "InvalidIndex")) = _; rw [ca_InvalidBox, ca_InvalidIndex]; exact kit_kc T.qm_InvalidBox_InvalidIndex T.ks_InvalidIndex T.ky_InvalidIndex) (ec_InvalidBox T) <| XTab.ok_cons (by show PySem.W.kitOne K (.ref ((ga K Z).ca "InvalidBox")) (.ref ((ga K Z).ca "InvalidKey")) = _; rw [ca_InvalidBox, ca_InvalidKey]; exact kit_kc T.qm_InvalidBox_InvalidKey T.ks_InvalidKey T.ky_InvalidKey) (ec_InvalidBox T) <| XTab.ok_cons (by show PySem.W.kitOne K (.ref ((ga K Z).ca "InvalidBox")) (.ref ((ga K Z).ca "InvalidLayout")) = _; rw [ca_InvalidBox, ca_InvalidLayout]; exact kit_kc T.qm_InvalidBox_InvalidLayout T.ks_InvalidLayout T.ky_InvalidLayout) (ec_InvalidBox T) <| XTab.ok_cons (by show PySem.W.kitOne K (.ref ((ga K Z).ca "InvalidBox")) (.ref ((ga K Z).ca "InvalidLoad")) = _; rw [ca_InvalidBox, ca_InvalidLoad]; exact kit_kc T.qm_InvalidBox_InvalidLoad T.ks_InvalidLoad T.ky_InvalidLoad) (ec_InvalidBox T) <| XTab.ok_cons (by show PySem.W.kitOne K (.ref ((ga K Z).ca "InvalidBox")) (.ref ((ga K Z).ca "InvalidNumber")) = _; rw [ca_InvalidBox, ca_InvalidNumber]; exact kit_kc T.qm_InvalidBox_InvalidNumber T.ks_InvalidNumber T.ky_InvalidNumber) (ec_InvalidBox T) <| XTab.ok_cons (by show PySem.W.kitOne K (.ref ((ga K Z).ca "InvalidBox")) (.ref ((ga K Z).ca "InvalidOperation")) = _; rw [ca_InvalidBox, ca_InvalidOperation]; exact kit_kc T.qm_InvalidBox_InvalidOperation T.ks_InvalidOperation T.ky_InvalidOperation) (ec_InvalidBox T) <| XTab.ok_cons (by show PySem.W.kitOne K (.ref ((ga K Z).ca "InvalidBox")) (.ref ((ga K Z).ca "InvalidSize")) = _; rw [ca_InvalidBox, ca_InvalidSize]; exact kit_kc T.qm_InvalidBox_InvalidSize T.ks_InvalidSize T.ky_InvalidSize) (ec_InvalidBox T) <| XTab.ok_cons (by show PySem.W.kitOne K (.ref ((ga K Z).ca "InvalidBox")) (.ref ((ga K Z).ca "InvalidText")) = _; rw [ca_InvalidBox, ca_InvalidText]; exact kit_kc T.qm_InvalidBox_InvalidText T.ks_InvalidText T.ky_InvalidText) (ec_InvalidBox T) <| XTab.ok_cons (by show PySem.W.kitOne K (.ref ((ga K Z).ca "InvalidBox")) (.ref ((ga K Z).ca "InvalidWord")) = _; rw [ca_InvalidBox, ca_InvalidWord]; exact kit_kc T.qm_InvalidBox_InvalidWord T.ks_InvalidWord T.ky_InvalidWord) (ec_InvalidBox T) <| XTab.ok_cons (by show PySem.W.kitOne K (.ref ((ga K Z).ca "InvalidBox")) (.ref ((ga K Z).ca "LaceError")) = _; rw [ca_InvalidBox, ca_LaceError]; exact kit_kc T.qm_InvalidBox_LaceError T.ks_LaceError T.ky_LaceError) (ec_InvalidBox T) <| XTab.ok_cons (by show PySem.W.kitOne K (.ref ((ga K Z).ca "InvalidBox")) (.ref ((ga K Z).ca "Nothing")) = _; rw [ca_InvalidBox, ca_Nothing]; exact kit_kc T.qm_InvalidBox_Nothing T.ks_Nothing T.ky_Nothing) (ec_InvalidBox T) <| XTab.ok_cons (by show PySem.W.kitOne K (.ref ((ga K Z).ca "InvalidBox")) (.ref ((ga K Z).ca "OverBudget")) = _; rw [ca_InvalidBox, ca_OverBudget]; exact kit_kc T.qm_InvalidBox_OverBudget T.ks_OverBudget T.ky_OverBudget) (ec_InvalidBox T) <| XTab.ok_cons (by show PySem.W.kitOne K (.ref ((ga K Z).ca "InvalidBox")) (.ref ((ga K Z).ca "TooMany")) = _; rw [ca_InvalidBox, ca_TooMany]; exact kit_kc T.qm_InvalidBox_TooMany T.ks_TooMany T.ky_TooMany) (ec_InvalidBox T) <| XTab.ok_cons (by show PySem.W.kitOne K (.ref ((ga K Z).ca "InvalidBox")) (.ref ((ga K Z).ca "UnlikeGrids")) = _; rw [ca_InvalidBox, ca_UnlikeGrids]; exact kit_kc T.qm_InvalidBox_UnlikeGrids T.ks_UnlikeGrids T.ky_UnlikeGrids) (ec_InvalidBox T) <| XTab.ok_cons (by rw [ca_InvalidBox]; exact kit_kt T.qm_InvalidBox_ValueError (by decide +kernel)) (ec_InvalidBox T) <| XTab.ok_nil
def xtab_InvalidBoxes : XTab := [("InvalidBoxes", (false, "InvalidBits"), false), ("InvalidBoxes", (false, "InvalidBox"), false), ("InvalidBoxes", (false, "InvalidBoxes"), true), ("InvalidBoxes", (false, "InvalidBudget"), false), ("InvalidBoxes", (false, "InvalidCell"), false), ("InvalidBoxes", (false, "InvalidCommand"), false), ("InvalidBoxes", (false, "InvalidIndex"), false), ("InvalidBoxes", (false, "InvalidKey"), false), ("InvalidBoxes", (false, "InvalidLayout"), false), ("InvalidBoxes", (false, "InvalidLoad"), false), ("InvalidBoxes", (false, "InvalidNumber"), false), ("InvalidBoxes", (false, "InvalidOperation"), false), ("InvalidBoxes", (false, "InvalidSize"), false), ("InvalidBoxes", (false, "InvalidText"), false), ("InvalidBoxes", (false, "InvalidWord"), false), ("InvalidBoxes", (false, "LaceError"), true), ("InvalidBoxes", (false, "Nothing"), false), ("InvalidBoxes", (false, "OverBudget"), false), ("InvalidBoxes", (false, "TooMany"), false), ("InvalidBoxes", (false, "UnlikeGrids"), false), ("InvalidBoxes", (true, "ValueError"), true)]
theorem xq_InvalidBoxes {K : PySem.W.Frag} {mg : Str → Option Value} {Z : Ads} (T : Top K mg Z) : xtab_InvalidBoxes.Ok (ga K Z) :=
  XTab.ok_cons (by show PySem.W.kitOne K (.ref ((ga K Z).ca "InvalidBoxes")) (.ref ((ga K Z).ca "InvalidBits")) = _; rw [ca_InvalidBoxes, ca_InvalidBits]; exact kit_kc T.qm_InvalidBoxes_InvalidBits T.ks_InvalidBits T.ky_InvalidBits) (ec_InvalidBoxes T) <| XTab.ok_cons (by show PySem.W.kitOne K (.ref ((ga K Z).ca "InvalidBoxes")) (.ref ((ga K Z).ca "InvalidBox")) = _; rw [ca_InvalidBoxes, ca_InvalidBox]; exact kit_kc T.qm_InvalidBoxes_InvalidBox T.ks_InvalidBox T.ky_InvalidBox) (ec_InvalidBoxes T) <| XTab.ok_cons (by show PySem.W.kitOne K (.ref ((ga K Z).ca "InvalidBoxes")) (.ref ((ga K Z).ca "InvalidBoxes")) = _; rw [ca_InvalidBoxes]; exact Lk.kitOne_self _ _) (ec_InvalidBoxes T) <| XTab.ok_cons (by show PySem.W.kitOne K (.ref ((ga K Z).ca "InvalidBoxes")) (.ref ((ga K Z).ca "InvalidBudget")) = _; rw [ca_InvalidBoxes, ca_InvalidBudget]; exact kit_kc T.qm_InvalidBoxes_InvalidBudget T.ks_InvalidBudget T.ky_InvalidBudget) (ec_InvalidBoxes T) <| XTab.ok_cons (by show PySem.W.kitOne K (.ref ((ga K Z).ca "InvalidBoxes")) (.ref ((ga K Z).ca "InvalidCell")) = _; rw [ca_InvalidBoxes, ca_InvalidCell]; exact kit_kc T.qm_InvalidBoxes_InvalidCell T.ks_InvalidCell T.ky_InvalidCell) (ec_InvalidBoxes T) <| XTab.ok_cons (by show PySem.W.kitOne K (.ref ((ga K Z).ca "InvalidBoxes")) (.ref ((ga K Z).ca "InvalidCommand")) = _; rw [ca_InvalidBoxes, ca_InvalidCommand]; exact kit_kc T.qm_InvalidBoxes_InvalidCommand T.ks_InvalidCommand T.ky_InvalidCommand) (ec_InvalidBoxes T) <| XTab.ok_cons (by show PySem.W.kitOne K (.ref ((ga K Z).ca "InvalidBoxes")) (.ref ((ga K Z).ca "InvalidIndex")) = _; rw [ca_InvalidBoxes, ca_InvalidIndex]; exact kit_kc T.qm_InvalidBoxes_InvalidIndex T.ks_InvalidIndex T.ky_InvalidIndex) (ec_InvalidBoxes T) <| XTab.ok_cons (by show PySem.W.kitOne K (.ref ((ga K Z).ca "InvalidBoxes")) (.ref ((ga K Z).ca "InvalidKey")) = _; rw [ca_InvalidBoxes, ca_InvalidKey]; exact kit_kc T.qm_InvalidBoxes_InvalidKey T.ks_InvalidKey T.ky_InvalidKey) (ec_InvalidBoxes T) <| XTab.ok_cons (by show PySem.W.kitOne K (.ref ((ga K Z).ca "InvalidBoxes")) (.ref ((ga K Z).ca "InvalidLayout")) = _; rw [ca_InvalidBoxes, ca_InvalidLayout]; exact kit_kc T.qm_InvalidBoxes_InvalidLayout T.ks_InvalidLayout T.ky_InvalidLayout) (ec_InvalidBoxes T) <| XTab.ok_cons (by show PySem.W.kitOne K (.ref ((ga K Z).ca "InvalidBoxes")) (.ref ((ga K Z).ca "InvalidLoad")) = _; rw [ca_InvalidBoxes, ca_InvalidLoad]; exact kit_kc T.qm_InvalidBoxes_InvalidLoad T.ks_InvalidLoad T.ky_InvalidLoad) (ec_InvalidBoxes T) <| XTab.ok_cons (by show PySem.W.kitOne K (.ref ((ga K Z).ca "InvalidBoxes")) (.ref ((ga K Z).ca "InvalidNumber")) = _; rw [ca_InvalidBoxes, ca_InvalidNumber]; exact kit_kc T.qm_InvalidBoxes_InvalidNumber T.ks_InvalidNumber T.ky_InvalidNumber) (ec_InvalidBoxes T) <| XTab.ok_cons (by show PySem.W.kitOne K (.ref ((ga K Z).ca "InvalidBoxes")) (.ref ((ga K Z).ca "InvalidOperation")) = _; rw [ca_InvalidBoxes, ca_InvalidOperation]; exact kit_kc T.qm_InvalidBoxes_InvalidOperation T.ks_InvalidOperation T.ky_InvalidOperation) (ec_InvalidBoxes T) <| XTab.ok_cons (by show PySem.W.kitOne K (.ref ((ga K Z).ca "InvalidBoxes")) (.ref ((ga K Z).ca "InvalidSize")) = _; rw [ca_InvalidBoxes, ca_InvalidSize]; exact kit_kc T.qm_InvalidBoxes_InvalidSize T.ks_InvalidSize T.ky_InvalidSize) (ec_InvalidBoxes T) <| XTab.ok_cons (by show PySem.W.kitOne K (.ref ((ga K Z).ca "InvalidBoxes")) (.ref ((ga K Z).ca "InvalidText")) = _; rw [ca_InvalidBoxes, ca_InvalidText]; exact kit_kc T.qm_InvalidBoxes_InvalidText T.ks_InvalidText T.ky_InvalidText) (ec_InvalidBoxes T) <| XTab.ok_cons (by show PySem.W.kitOne K (.ref ((ga K Z).ca "InvalidBoxes")) (.ref ((ga K Z).ca "InvalidWord")) = _; rw [ca_InvalidBoxes, ca_InvalidWord]; exact kit_kc T.qm_InvalidBoxes_InvalidWord T.ks_InvalidWord T.ky_InvalidWord) (ec_InvalidBoxes T) <| XTab.ok_cons (by show PySem.W.kitOne K (.ref ((ga K Z).ca "InvalidBoxes")) (.ref ((ga K Z).ca "LaceError")) = _; rw [ca_InvalidBoxes, ca_LaceError]; exact kit_kc T.qm_InvalidBoxes_LaceError T.ks_LaceError T.ky_LaceError) (ec_InvalidBoxes T) <| XTab.ok_cons (by show PySem.W.kitOne K (.ref ((ga K Z).ca "InvalidBoxes")) (.ref ((ga K Z).ca "Nothing")) = _; rw [ca_InvalidBoxes, ca_Nothing]; exact kit_kc T.qm_InvalidBoxes_Nothing T.ks_Nothing T.ky_Nothing) (ec_InvalidBoxes T) <| XTab.ok_cons (by show PySem.W.kitOne K (.ref ((ga K Z).ca "InvalidBoxes")) (.ref ((ga K Z).ca "OverBudget")) = _; rw [ca_InvalidBoxes, ca_OverBudget]; exact kit_kc T.qm_InvalidBoxes_OverBudget T.ks_OverBudget T.ky_OverBudget) (ec_InvalidBoxes T) <| XTab.ok_cons (by show PySem.W.kitOne K (.ref ((ga K Z).ca "InvalidBoxes")) (.ref ((ga K Z).ca "TooMany")) = _; rw [ca_InvalidBoxes, ca_TooMany]; exact kit_kc T.qm_InvalidBoxes_TooMany T.ks_TooMany T.ky_TooMany) (ec_InvalidBoxes T) <| XTab.ok_cons (by show PySem.W.kitOne K (.ref ((ga K Z).ca "InvalidBoxes")) (.ref ((ga K Z).ca "UnlikeGrids")) = _; rw [ca_InvalidBoxes, ca_UnlikeGrids]; exact kit_kc T.qm_InvalidBoxes_UnlikeGrids T.ks_UnlikeGrids T.ky_UnlikeGrids) (ec_InvalidBoxes T) <| XTab.ok_cons (by rw [ca_InvalidBoxes]; exact kit_kt T.qm_InvalidBoxes_ValueError (by decide +kernel)) (ec_InvalidBoxes T) <| XTab.ok_nil
def xtab_InvalidBudget : XTab := [("InvalidBudget", (false, "InvalidBits"), false), ("InvalidBudget", (false, "InvalidBox"), false), ("InvalidBudget", (false, "InvalidBoxes"), false), ("InvalidBudget", (false, "InvalidBudget"), true), ("InvalidBudget", (false, "InvalidCell"), false), ("InvalidBudget", (false, "InvalidCommand"), false), ("InvalidBudget", (false, "InvalidIndex"), false), ("InvalidBudget", (false, "InvalidKey"), false), ("InvalidBudget", (false, "InvalidLayout"), false), ("InvalidBudget", (false, "InvalidLoad"), false), ("InvalidBudget", (false, "InvalidNumber"), false), ("InvalidBudget", (false, "InvalidOperation"), false), ("InvalidBudget", (false, "InvalidSize"), false), ("InvalidBudget", (false, "InvalidText"), false), ("InvalidBudget", (false, "InvalidWord"), false), ("InvalidBudget", (false, "LaceError"), true), ("InvalidBudget", (false, "Nothing"), false), ("InvalidBudget", (false, "OverBudget"), false), ("InvalidBudget", (false, "TooMany"), false), ("InvalidBudget", (false, "UnlikeGrids"), false), ("InvalidBudget", (true, "ValueError"), true)]
theorem xq_InvalidBudget {K : PySem.W.Frag} {mg : Str → Option Value} {Z : Ads} (T : Top K mg Z) : xtab_InvalidBudget.Ok (ga K Z) :=
  XTab.ok_cons (by show PySem.W.kitOne K (.ref ((ga K Z).ca "InvalidBudget")) (.ref ((ga K Z).ca "InvalidBits")) = _; rw [ca_InvalidBudget, ca_InvalidBits]; exact kit_kc T.qm_InvalidBudget_InvalidBits T.ks_InvalidBits T.ky_InvalidBits) (ec_InvalidBudget T) <| XTab.ok_cons (by show PySem.W.kitOne K (.ref ((ga K Z).ca "InvalidBudget")) (.ref ((ga K Z).ca "InvalidBox")) = _; rw [ca_InvalidBudget, ca_InvalidBox]; exact kit_kc T.qm_InvalidBudget_InvalidBox T.ks_InvalidBox T.ky_InvalidBox) (ec_InvalidBudget T) <| XTab.ok_cons (by show PySem.W.kitOne K (.ref ((ga K Z).ca "InvalidBudget")) (.ref ((ga K Z).ca "InvalidBoxes")) = _; rw [ca_InvalidBudget, ca_InvalidBoxes]; exact kit_kc T.qm_InvalidBudget_InvalidBoxes T.ks_InvalidBoxes T.ky_InvalidBoxes) (ec_InvalidBudget T) <| XTab.ok_cons (by show PySem.W.kitOne K (.ref ((ga K Z).ca "InvalidBudget")) (.ref ((ga K Z).ca "InvalidBudget")) = _; rw [ca_InvalidBudget]; exact Lk.kitOne_self _ _) (ec_InvalidBudget T) <| XTab.ok_cons (by show PySem.W.kitOne K (.ref ((ga K Z).ca "InvalidBudget")) (.ref ((ga K Z).ca "InvalidCell")) = _; rw [ca_InvalidBudget, ca_InvalidCell]; exact kit_kc T.qm_InvalidBudget_InvalidCell T.ks_InvalidCell T.ky_InvalidCell) (ec_InvalidBudget T) <| XTab.ok_cons (by show PySem.W.kitOne K (.ref ((ga K Z).ca "InvalidBudget")) (.ref ((ga K Z).ca "InvalidCommand")) = _; rw [ca_InvalidBudget, ca_InvalidCommand]; exact kit_kc T.qm_InvalidBudget_InvalidCommand T.ks_InvalidCommand T.ky_InvalidCommand) (ec_InvalidBudget T) <| XTab.ok_cons (by show PySem.W.kitOne K (.ref ((ga K Z).ca "InvalidBudget")) (.ref ((ga K Z).ca "InvalidIndex")) = _; rw [ca_InvalidBudget, ca_InvalidIndex]; exact kit_kc T.qm_InvalidBudget_InvalidIndex T.ks_InvalidIndex T.ky_InvalidIndex) (ec_InvalidBudget T) <| XTab.ok_cons (by show PySem.W.kitOne K (.ref ((ga K Z).ca "InvalidBudget")) (.ref ((ga K Z).ca "InvalidKey")) = _; rw [ca_InvalidBudget, ca_InvalidKey]; exact kit_kc T.qm_InvalidBudget_InvalidKey T.ks_InvalidKey T.ky_InvalidKey) (ec_InvalidBudget T) <| XTab.ok_cons (by show PySem.W.kitOne K (.ref ((ga K Z).ca "InvalidBudget")) (.ref ((ga K Z).ca "InvalidLayout")) = _; rw [ca_InvalidBudget, ca_InvalidLayout]; exact kit_kc T.qm_InvalidBudget_InvalidLayout T.ks_InvalidLayout T.ky_InvalidLayout) (ec_InvalidBudget T) <| XTab.ok_cons (by show PySem.W.kitOne K (.ref ((ga K Z).ca "InvalidBudget")) (.ref ((ga K Z).ca "InvalidLoad")) = _; rw [ca_InvalidBudget, ca_InvalidLoad]; exact kit_kc T.qm_InvalidBudget_InvalidLoad T.ks_InvalidLoad T.ky_InvalidLoad) (ec_InvalidBudget T) <| XTab.ok_cons (by show PySem.W.kitOne K (.ref ((ga K Z).ca "InvalidBudget")) (.ref ((ga K Z).ca "InvalidNumber")) = _; rw [ca_InvalidBudget, ca_InvalidNumber]; exact kit_kc T.qm_InvalidBudget_InvalidNumber T.ks_InvalidNumber T.ky_InvalidNumber) (ec_InvalidBudget T) <| XTab.ok_cons (by show PySem.W.kitOne K (.ref ((ga K Z).ca "InvalidBudget")) (.ref ((ga K Z).ca "InvalidOperation")) = _; rw [ca_InvalidBudget, ca_InvalidOperation]; exact kit_kc T.qm_InvalidBudget_InvalidOperation T.ks_InvalidOperation T.ky_InvalidOperation) (ec_InvalidBudget T) <| XTab.ok_cons (by show PySem.W.kitOne K (.ref ((ga K Z).ca "InvalidBudget")) (.ref ((ga K Z).ca "InvalidSize")) = _; rw [ca_InvalidBudget, ca_InvalidSize]; exact kit_kc T.qm_InvalidBudget_InvalidSize T.ks_InvalidSize T.ky_InvalidSize) (ec_InvalidBudget T) <| XTab.ok_cons (by show PySem.W.kitOne K (.ref ((ga K Z).ca "InvalidBudget")) (.ref ((ga K Z).ca "InvalidText")) = _; rw [ca_InvalidBudget, ca_InvalidText]; exact kit_kc T.qm_InvalidBudget_InvalidText T.ks_InvalidText T.ky_InvalidText) (ec_InvalidBudget T) <| XTab.ok_cons (by show PySem.W.kitOne K (.ref ((ga K Z).ca "InvalidBudget")) (.ref ((ga K Z).ca "InvalidWord")) = _; rw [ca_InvalidBudget, ca_InvalidWord]; exact kit_kc T.qm_InvalidBudget_InvalidWord T.ks_InvalidWord T.ky_InvalidWord) (ec_InvalidBudget T) <| XTab.ok_cons (by show PySem.W.kitOne K (.ref ((ga K Z).ca "InvalidBudget")) (.ref ((ga K Z).ca "LaceError")) = _; rw [ca_InvalidBudget, ca_LaceError]; exact kit_kc T.qm_InvalidBudget_LaceError T.ks_LaceError T.ky_LaceError) (ec_InvalidBudget T) <| XTab.ok_cons (by show PySem.W.kitOne K (.ref ((ga K Z).ca "InvalidBudget")) (.ref ((ga K Z).ca "Nothing")) = _; rw [ca_InvalidBudget, ca_Nothing]; exact kit_kc T.qm_InvalidBudget_Nothing T.ks_Nothing T.ky_Nothing) (ec_InvalidBudget T) <| XTab.ok_cons (by show PySem.W.kitOne K (.ref ((ga K Z).ca "InvalidBudget")) (.ref ((ga K Z).ca "OverBudget")) = _; rw [ca_InvalidBudget, ca_OverBudget]; exact kit_kc T.qm_InvalidBudget_OverBudget T.ks_OverBudget T.ky_OverBudget) (ec_InvalidBudget T) <| XTab.ok_cons (by show PySem.W.kitOne K (.ref ((ga K Z).ca "InvalidBudget")) (.ref ((ga K Z).ca "TooMany")) = _; rw [ca_InvalidBudget, ca_TooMany]; exact kit_kc T.qm_InvalidBudget_TooMany T.ks_TooMany T.ky_TooMany) (ec_InvalidBudget T) <| XTab.ok_cons (by show PySem.W.kitOne K (.ref ((ga K Z).ca "InvalidBudget")) (.ref ((ga K Z).ca "UnlikeGrids")) = _; rw [ca_InvalidBudget, ca_UnlikeGrids]; exact kit_kc T.qm_InvalidBudget_UnlikeGrids T.ks_UnlikeGrids T.ky_UnlikeGrids) (ec_InvalidBudget T) <| XTab.ok_cons (by rw [ca_InvalidBudget]; exact kit_kt T.qm_InvalidBudget_ValueError (by decide +kernel)) (ec_InvalidBudget T) <| XTab.ok_nil
def xtab_InvalidCell : XTab := [("InvalidCell", (false, "InvalidBits"), false), ("InvalidCell", (false, "InvalidBox"), false), ("InvalidCell", (false, "InvalidBoxes"), false), ("InvalidCell", (false, "InvalidBudget"), false), ("InvalidCell", (false, "InvalidCell"), true), ("InvalidCell", (false, "InvalidCommand"), false), ("InvalidCell", (false, "InvalidIndex"), false), ("InvalidCell", (false, "InvalidKey"), false), ("InvalidCell", (false, "InvalidLayout"), false), ("InvalidCell", (false, "InvalidLoad"), false), ("InvalidCell", (false, "InvalidNumber"), false), ("InvalidCell", (false, "InvalidOperation"), false), ("InvalidCell", (false, "InvalidSize"), false), ("InvalidCell", (false, "InvalidText"), false), ("InvalidCell", (false, "InvalidWord"), false), ("InvalidCell", (false, "LaceError"), true), ("InvalidCell", (false, "Nothing"), false), ("InvalidCell", (false, "OverBudget"), false), ("InvalidCell", (false, "TooMany"), false), ("InvalidCell", (false, "UnlikeGrids"), false), ("InvalidCell", (true, "ValueError"), true)]
theorem xq_InvalidCell {K : PySem.W.Frag} {mg : Str → Option Value} {Z : Ads} (T : Top K mg Z) : xtab_InvalidCell.Ok (ga K Z) :=
  XTab.ok_cons (by show PySem.W.kitOne K (.ref ((ga K Z).ca "InvalidCell")) (.ref ((ga K Z).ca "InvalidBits")) = _; rw [ca_InvalidCell, ca_InvalidBits]; exact kit_kc T.qm_InvalidCell_InvalidBits T.ks_InvalidBits T.ky_InvalidBits) (ec_InvalidCell T) <| XTab.ok_cons (by show PySem.W.kitOne K (.ref ((ga K Z).ca "InvalidCell")) (.ref ((ga K Z).ca "InvalidBox")) = _; rw [ca_InvalidCell, ca_InvalidBox]; exact kit_kc T.qm_InvalidCell_InvalidBox T.ks_InvalidBox T.ky_InvalidBox) (ec_InvalidCell T) <| XTab.ok_cons (by show PySem.W.kitOne K (.ref ((ga K Z).ca "InvalidCell")) (.ref ((ga K Z).ca "InvalidBoxes")) = _; rw [ca_InvalidCell, ca_InvalidBoxes]; exact kit_kc T.qm_InvalidCell_InvalidBoxes T.ks_InvalidBoxes T.ky_InvalidBoxes) (ec_InvalidCell T) <| XTab.ok_cons (by show PySem.W.kitOne K (.ref ((ga K Z).ca "InvalidCell")) (.ref ((ga K Z).ca "InvalidBudget")) = _; rw [ca_InvalidCell, ca_InvalidBudget]; exact kit_kc T.qm_InvalidCell_InvalidBudget T.ks_InvalidBudget T.ky_InvalidBudget) (ec_InvalidCell T) <| XTab.ok_cons (by show PySem.W.kitOne K (.ref ((ga K Z).ca "InvalidCell")) (.ref ((ga K Z).ca "InvalidCell")) = _; rw [ca_InvalidCell]; exact Lk.kitOne_self _ _) (ec_InvalidCell T) <| XTab.ok_cons (by show PySem.W.kitOne K (.ref ((ga K Z).ca "InvalidCell")) (.ref ((ga K Z).ca "InvalidCommand")) = _; rw [ca_InvalidCell, ca_InvalidCommand]; exact kit_kc T.qm_InvalidCell_InvalidCommand T.ks_InvalidCommand T.ky_InvalidCommand) (ec_InvalidCell T) <| XTab.ok_cons (by show PySem.W.kitOne K (.ref ((ga K Z).ca "InvalidCell")) (.ref ((ga K Z).ca "InvalidIndex")) = _; rw [ca_InvalidCell, ca_InvalidIndex]; exact kit_kc T.qm_InvalidCell_InvalidIndex T.ks_InvalidIndex T.ky_InvalidIndex) (ec_InvalidCell T) <| XTab.ok_cons (by show PySem.W.kitOne K (.ref ((ga K Z).ca "InvalidCell")) (.ref ((ga K Z).ca "InvalidKey")) = _; rw [ca_InvalidCell, ca_InvalidKey]; exact kit_kc T.qm_InvalidCell_InvalidKey T.ks_InvalidKey T.ky_InvalidKey) (ec_InvalidCell T) <| XTab.ok_cons (by show PySem.W.kitOne K (.ref ((ga K Z).ca "InvalidCell")) (.ref ((ga K Z).ca "InvalidLayout")) = _; rw [ca_InvalidCell, ca_InvalidLayout]; exact kit_kc T.qm_InvalidCell_InvalidLayout T.ks_InvalidLayout T.ky_InvalidLayout) (ec_InvalidCell T) <| XTab.ok_cons (by show PySem.W.kitOne K (.ref ((ga K Z).ca "InvalidCell")) (.ref ((ga K Z).ca "InvalidLoad")) = _; rw [ca_InvalidCell, ca_InvalidLoad]; exact kit_kc T.qm_InvalidCell_InvalidLoad T.ks_InvalidLoad T.ky_InvalidLoad) (ec_InvalidCell T) <| XTab.ok_cons (by show PySem.W.kitOne K (.ref ((ga K Z).ca "InvalidCell")) (.ref ((ga K Z).ca "InvalidNumber")) = _; rw [ca_InvalidCell, ca_InvalidNumber]; exact kit_kc T.qm_InvalidCell_InvalidNumber T.ks_InvalidNumber T.ky_InvalidNumber) (ec_InvalidCell T) <| XTab.ok_cons (by show PySem.W.kitOne K (.ref ((ga K Z).ca "InvalidCell")) (.ref ((ga K Z).ca "InvalidOperation")) = _; rw [ca_InvalidCell, ca_InvalidOperation]; exact kit_kc T.qm_InvalidCell_InvalidOperation T.ks_InvalidOperation T.ky_InvalidOperation) (ec_InvalidCell T) <| XTab.ok_cons (by show PySem.W.kitOne K (.ref ((ga K Z).ca "InvalidCell")) (.ref ((ga K Z).ca "InvalidSize")) = _; rw [ca_InvalidCell, ca_InvalidSize]; exact kit_kc T.qm_InvalidCell_InvalidSize T.ks_InvalidSize T.ky_InvalidSize) (ec_InvalidCell T) <| XTab.ok_cons (by show PySem.W.kitOne K (.ref ((ga K Z).ca "InvalidCell")) (.ref ((ga K Z).ca "InvalidText")) = _; rw [ca_InvalidCell, ca_InvalidText]; exact kit_kc T.qm_InvalidCell_InvalidText T.ks_InvalidText T.ky_InvalidText) (ec_InvalidCell T) <| XTab.ok_cons (by show PySem.W.kitOne K (.ref ((ga K Z).ca "InvalidCell")) (.ref ((ga K Z).ca "InvalidWord")) = _; rw [ca_InvalidCell, ca_InvalidWord]; exact kit_kc T.qm_InvalidCell_InvalidWord T.ks_InvalidWord T.ky_InvalidWord) (ec_InvalidCell T) <| XTab.ok_cons (by show PySem.W.kitOne K (.ref ((ga K Z).ca "InvalidCell")) (.ref ((ga K Z).ca "LaceError")) = _; rw [ca_InvalidCell, ca_LaceError]; exact kit_kc T.qm_InvalidCell_LaceError T.ks_LaceError T.ky_LaceError) (ec_InvalidCell T) <| XTab.ok_cons (by show PySem.W.kitOne K (.ref ((ga K Z).ca "InvalidCell")) (.ref ((ga K Z).ca "Nothing")) = _; rw [ca_InvalidCell, ca_Nothing]; exact kit_kc T.qm_InvalidCell_Nothing T.ks_Nothing T.ky_Nothing) (ec_InvalidCell T) <| XTab.ok_cons (by show PySem.W.kitOne K (.ref ((ga K Z).ca "InvalidCell")) (.ref ((ga K Z).ca "OverBudget")) = _; rw [ca_InvalidCell, ca_OverBudget]; exact kit_kc T.qm_InvalidCell_OverBudget T.ks_OverBudget T.ky_OverBudget) (ec_InvalidCell T) <| XTab.ok_cons (by show PySem.W.kitOne K (.ref ((ga K Z).ca "InvalidCell")) (.ref ((ga K Z).ca "TooMany")) = _; rw [ca_InvalidCell, ca_TooMany]; exact kit_kc T.qm_InvalidCell_TooMany T.ks_TooMany T.ky_TooMany) (ec_InvalidCell T) <| XTab.ok_cons (by show PySem.W.kitOne K (.ref ((ga K Z).ca "InvalidCell")) (.ref ((ga K Z).ca "UnlikeGrids")) = _; rw [ca_InvalidCell, ca_UnlikeGrids]; exact kit_kc T.qm_InvalidCell_UnlikeGrids T.ks_UnlikeGrids T.ky_UnlikeGrids) (ec_InvalidCell T) <| XTab.ok_cons (by rw [ca_InvalidCell]; exact kit_kt T.qm_InvalidCell_ValueError (by decide +kernel)) (ec_InvalidCell T) <| XTab.ok_nil
def xtab_InvalidCommand : XTab := [("InvalidCommand", (false, "InvalidBits"), false), ("InvalidCommand", (false, "InvalidBox"), false), ("InvalidCommand", (false, "InvalidBoxes"), false), ("InvalidCommand", (false, "InvalidBudget"), false), ("InvalidCommand", (false, "InvalidCell"), false), ("InvalidCommand", (false, "InvalidCommand"), true), ("InvalidCommand", (false, "InvalidIndex"), false), ("InvalidCommand", (false, "InvalidKey"), false), ("InvalidCommand", (false, "InvalidLayout"), false), ("InvalidCommand", (false, "InvalidLoad"), false), ("InvalidCommand", (false, "InvalidNumber"), false), ("InvalidCommand", (false, "InvalidOperation"), false), ("InvalidCommand", (false, "InvalidSize"), false), ("InvalidCommand", (false, "InvalidText"), false), ("InvalidCommand", (false, "InvalidWord"), false), ("InvalidCommand", (false, "LaceError"), true), ("InvalidCommand", (false, "Nothing"), false), ("InvalidCommand", (false, "OverBudget"), false), ("InvalidCommand", (false, "TooMany"), false), ("InvalidCommand", (false, "UnlikeGrids"), false), ("InvalidCommand", (true, "ValueError"), true)]
theorem xq_InvalidCommand {K : PySem.W.Frag} {mg : Str → Option Value} {Z : Ads} (T : Top K mg Z) : xtab_InvalidCommand.Ok (ga K Z) :=
  XTab.ok_cons (by show PySem.W.kitOne K (.ref ((ga K Z).ca "InvalidCommand")) (.ref ((ga K Z).ca "InvalidBits")) = _; rw [ca_InvalidCommand, ca_InvalidBits]; exact kit_kc T.qm_InvalidCommand_InvalidBits T.ks_InvalidBits T.ky_InvalidBits) (ec_InvalidCommand T) <| XTab.ok_cons (by show PySem.W.kitOne K (.ref ((ga K Z).ca "InvalidCommand")) (.ref ((ga K Z).ca "InvalidBox")) = _; rw [ca_InvalidCommand, ca_InvalidBox]; exact kit_kc T.qm_InvalidCommand_InvalidBox T.ks_InvalidBox T.ky_InvalidBox) (ec_InvalidCommand T) <| XTab.ok_cons (by show PySem.W.kitOne K (.ref ((ga K Z).ca "InvalidCommand")) (.ref ((ga K Z).ca "InvalidBoxes")) = _; rw [ca_InvalidCommand, ca_InvalidBoxes]; exact kit_kc T.qm_InvalidCommand_InvalidBoxes T.ks_InvalidBoxes T.ky_InvalidBoxes) (ec_InvalidCommand T) <| XTab.ok_cons (by show PySem.W.kitOne K (.ref ((ga K Z).ca "InvalidCommand")) (.ref ((ga K Z).ca "InvalidBudget")) = _; rw [ca_InvalidCommand, ca_InvalidBudget]; exact kit_kc T.qm_InvalidCommand_InvalidBudget T.ks_InvalidBudget T.ky_InvalidBudget) (ec_InvalidCommand T) <| XTab.ok_cons (by show PySem.W.kitOne K (.ref ((ga K Z).ca "InvalidCommand")) (.ref ((ga K Z).ca "InvalidCell")) = _; rw [ca_InvalidCommand, ca_InvalidCell]; exact kit_kc T.qm_InvalidCommand_InvalidCell T.ks_InvalidCell T.ky_InvalidCell) (ec_InvalidCommand T) <| XTab.ok_cons (by show PySem.W.kitOne K (.ref ((ga K Z).ca "InvalidCommand")) (.ref ((ga K Z).ca "InvalidCommand")) = _; rw [ca_InvalidCommand]; exact Lk.kitOne_self _ _) (ec_InvalidCommand T) <| XTab.ok_cons (by show PySem.W.kitOne K (.ref ((ga K Z).ca "InvalidCommand")) (.ref ((ga K Z).ca "InvalidIndex")) = _; rw [ca_InvalidCommand, ca_InvalidIndex]; exact kit_kc T.qm_InvalidCommand_InvalidIndex T.ks_InvalidIndex T.ky_InvalidIndex) (ec_InvalidCommand T) <| XTab.ok_cons (by show PySem.W.kitOne K (.ref ((ga K Z).ca "InvalidCommand")) (.ref ((ga K Z).ca "InvalidKey")) = _; rw [ca_InvalidCommand, ca_InvalidKey]; exact kit_kc T.qm_InvalidCommand_InvalidKey T.ks_InvalidKey T.ky_InvalidKey) (ec_InvalidCommand T) <| XTab.ok_cons (by show PySem.W.kitOne K (.ref ((ga K Z).ca "InvalidCommand")) (.ref ((ga K Z).ca "InvalidLayout")) = _; rw [ca_InvalidCommand, ca_InvalidLayout]; exact kit_kc T.qm_InvalidCommand_InvalidLayout T.ks_InvalidLayout T.ky_InvalidLayout) (ec_InvalidCommand T) <| XTab.ok_cons (by show PySem.W.kitOne K (.ref ((ga K Z).ca "InvalidCommand")) (.ref ((ga K Z).ca "InvalidLoad")) = _; rw [ca_InvalidCommand, ca_InvalidLoad]; exact kit_kc T.qm_InvalidCommand_InvalidLoad T.ks_InvalidLoad T.ky_InvalidLoad) (ec_InvalidCommand T) <| XTab.ok_cons (by show PySem.W.kitOne K (.ref ((ga K Z).ca "InvalidCommand")) (.ref ((ga K Z).ca "InvalidNumber")) = _; rw [ca_InvalidCommand, ca_InvalidNumber]; exact kit_kc T.qm_InvalidCommand_InvalidNumber T.ks_InvalidNumber T.ky_InvalidNumber) (ec_InvalidCommand T) <| XTab.ok_cons (by show PySem.W.kitOne K (.ref ((ga K Z).ca "InvalidCommand")) (.ref ((ga K Z).ca "InvalidOperation")) = _; rw [ca_InvalidCommand, ca_InvalidOperation]; exact kit_kc T.qm_InvalidCommand_InvalidOperation T.ks_InvalidOperation T.ky_InvalidOperation) (ec_InvalidCommand T) <| XTab.ok_cons (by show PySem.W.kitOne K (.ref ((ga K Z).ca "InvalidCommand")) (.ref ((ga K Z).ca "InvalidSize")) = _; rw [ca_InvalidCommand, ca_InvalidSize]; exact kit_kc T.qm_InvalidCommand_InvalidSize T.ks_InvalidSize T.ky_InvalidSize) (ec_InvalidCommand T) <| XTab.ok_cons (by show PySem.W.kitOne K (.ref ((ga K Z).ca "InvalidCommand")) (.ref ((ga K Z).ca "InvalidText")) = _; rw [ca_InvalidCommand, ca_InvalidText]; exact kit_kc T.qm_InvalidCommand_InvalidText T.ks_InvalidText T.ky_InvalidText) (ec_InvalidCommand T) <| XTab.ok_cons (by show PySem.W.kitOne K (.ref ((ga K Z).ca "InvalidCommand")) (.ref ((ga K Z).ca "InvalidWord")) = _; rw [ca_InvalidCommand, ca_InvalidWord]; exact kit_kc T.qm_InvalidCommand_InvalidWord T.ks_InvalidWord T.ky_InvalidWord) (ec_InvalidCommand T) <| XTab.ok_cons (by show PySem.W.kitOne K (.ref ((ga K Z).ca "InvalidCommand")) (.ref ((ga K Z).ca "LaceError")) = _; rw [ca_InvalidCommand, ca_LaceError]; exact kit_kc T.qm_InvalidCommand_LaceError T.ks_LaceError T.ky_LaceError) (ec_InvalidCommand T) <| XTab.ok_cons (by show PySem.W.kitOne K (.ref ((ga K Z).ca "InvalidCommand")) (.ref ((ga K Z).ca "Nothing")) = _; rw [ca_InvalidCommand, ca_Nothing]; exact kit_kc T.qm_InvalidCommand_Nothing T.ks_Nothing T.ky_Nothing) (ec_InvalidCommand T) <| XTab.ok_cons (by show PySem.W.kitOne K (.ref ((ga K Z).ca "InvalidCommand")) (.ref ((ga K Z).ca "OverBudget")) = _; rw [ca_InvalidCommand, ca_OverBudget]; exact kit_kc T.qm_InvalidCommand_OverBudget T.ks_OverBudget T.ky_OverBudget) (ec_InvalidCommand T) <| XTab.ok_cons (by show PySem.W.kitOne K (.ref ((ga K Z).ca "InvalidCommand")) (.ref ((ga K Z).ca "TooMany")) = _; rw [ca_InvalidCommand, ca_TooMany]; exact kit_kc T.qm_InvalidCommand_TooMany T.ks_TooMany T.ky_TooMany) (ec_InvalidCommand T) <| XTab.ok_cons (by show PySem.W.kitOne K (.ref ((ga K Z).ca "InvalidCommand")) (.ref ((ga K Z).ca "UnlikeGrids")) = _; rw [ca_InvalidCommand, ca_UnlikeGrids]; exact kit_kc T.qm_InvalidCommand_UnlikeGrids T.ks_UnlikeGrids T.ky_UnlikeGrids) (ec_InvalidCommand T) <| XTab.ok_cons (by rw [ca_InvalidCommand]; exact kit_kt T.qm_InvalidCommand_ValueError (by decide +kernel)) (ec_InvalidCommand T) <| XTab.ok_nil
def xtab_InvalidIndex : XTab := [("InvalidIndex", (false, "InvalidBits"), false), ("InvalidIndex", (false, "InvalidBox"), false), ("InvalidIndex", (false, "InvalidBoxes"), false), ("InvalidIndex", (false, "InvalidBudget"), false), ("InvalidIndex", (false, "InvalidCell"), false), ("InvalidIndex", (false, "InvalidCommand"), false), ("InvalidIndex", (false, "InvalidIndex"), true), ("InvalidIndex", (false, "InvalidKey"), false), ("InvalidIndex", (false, "InvalidLayout"), false), ("InvalidIndex", (false, "InvalidLoad"), false), ("InvalidIndex", (false, "InvalidNumber"), false), ("InvalidIndex", (false, "InvalidOperation"), false), ("InvalidIndex", (false, "InvalidSize"), false), ("InvalidIndex", (false, "InvalidText"), false), ("InvalidIndex", (false, "InvalidWord"), false), ("InvalidIndex", (false, "LaceError"), true), ("InvalidIndex", (false, "Nothing"), false), ("InvalidIndex", (false, "OverBudget"), false), ("InvalidIndex", (false, "TooMany"), false), ("InvalidIndex", (false, "UnlikeGrids"), false), ("InvalidIndex", (true, "ValueError"), true)]
theorem xq_InvalidIndex {K : PySem.W.Frag} {mg : Str → Option Value} {Z : Ads} (T : Top K mg Z) : xtab_InvalidIndex.Ok (ga K Z) :=
  XTab.ok_cons (by show PySem.W.kitOne K (.ref ((ga K Z).ca "InvalidIndex")) (.ref ((ga K Z).ca "InvalidBits")) = _; rw [ca_InvalidIndex, ca_InvalidBits]; exact kit_kc T.qm_InvalidIndex_InvalidBits T.ks_InvalidBits T.ky_InvalidBits) (ec_InvalidIndex T) <| XTab.ok_cons (by show PySem.W.kitOne K (.ref ((ga K Z).ca "InvalidIndex")) (.ref ((ga K Z).ca "InvalidBox")) = _; rw [ca_InvalidIndex, ca_InvalidBox]; exact kit_kc T.qm_InvalidIndex_InvalidBox T.ks_InvalidBox T.ky_InvalidBox) (ec_InvalidIndex T) <| XTab.ok_cons (by show PySem.W.kitOne K (.ref ((ga K Z).ca "InvalidIndex")) (.ref ((ga K Z).ca "InvalidBoxes")) = _; rw [ca_InvalidIndex, ca_InvalidBoxes]; exact kit_kc T.qm_InvalidIndex_InvalidBoxes T.ks_InvalidBoxes T.ky_InvalidBoxes) (ec_InvalidIndex T) <| XTab.ok_cons (by show PySem.W.kitOne K (.ref ((ga K Z).ca "InvalidIndex")) (.ref ((ga K Z).ca "InvalidBudget")) = _; rw [ca_InvalidIndex, ca_InvalidBudget]; exact kit_kc T.qm_InvalidIndex_InvalidBudget T.ks_InvalidBudget T.ky_InvalidBudget) (ec_InvalidIndex T) <| XTab.ok_cons (by show PySem.W.kitOne K (.ref ((ga K Z).ca "InvalidIndex")) (.ref ((ga K Z).ca "InvalidCell")) = _; rw [ca_InvalidIndex, ca_InvalidCell]; exact kit_kc T.qm_InvalidIndex_InvalidCell T.ks_InvalidCell T.ky_InvalidCell) (ec_InvalidIndex T) <| XTab.ok_cons (by show PySem.W.kitOne K (.ref ((ga K Z).ca "InvalidIndex")) (.ref ((ga K Z).ca "InvalidCommand")) = _; rw [ca_InvalidIndex, ca_InvalidCommand]; exact kit_kc T.qm_InvalidIndex_InvalidCommand T.ks_InvalidCommand T.ky_InvalidCommand) (ec_InvalidIndex T) <| XTab.ok_cons (by show PySem.W.kitOne K (.ref ((ga K Z).ca "InvalidIndex")) (.ref ((ga K Z).ca "InvalidIndex")) = _; rw [ca_InvalidIndex]; exact Lk.kitOne_self _ _) (ec_InvalidIndex T) <| XTab.ok_cons (by show PySem.W.kitOne K (.ref ((ga K Z).ca "InvalidIndex")) (.ref ((ga K Z).ca "InvalidKey")) = _; rw [ca_InvalidIndex, ca_InvalidKey]; exact kit_kc T.qm_InvalidIndex_InvalidKey T.ks_InvalidKey T.ky_InvalidKey) (ec_InvalidIndex T) <| XTab.ok_cons (by show PySem.W.kitOne K (.ref ((ga K Z).ca "InvalidIndex")) (.ref ((ga K Z).ca "InvalidLayout")) = _; rw [ca_InvalidIndex, ca_InvalidLayout]; exact kit_kc T.qm_InvalidIndex_InvalidLayout T.ks_InvalidLayout T.ky_InvalidLayout) (ec_InvalidIndex T) <| XTab.ok_cons (by show PySem.W.kitOne K (.ref ((ga K Z).ca "InvalidIndex")) (.ref ((ga K Z).ca "InvalidLoad")) = _; rw [ca_InvalidIndex, ca_InvalidLoad]; exact kit_kc T.qm_InvalidIndex_InvalidLoad T.ks_InvalidLoad T.ky_InvalidLoad) (ec_InvalidIndex T) <| XTab.ok_cons (by show PySem.W.kitOne K (.ref ((ga K Z).ca "InvalidIndex")) (.ref ((ga K Z).ca "InvalidNumber")) = _; rw [ca_InvalidIndex, ca_InvalidNumber]; exact kit_kc T.qm_InvalidIndex_InvalidNumber T.ks_InvalidNumber T.ky_InvalidNumber) (ec_InvalidIndex T) <| XTab.ok_cons (by show PySem.W.kitOne K (.ref ((ga K Z).ca "InvalidIndex")) (.ref ((ga K Z).ca "InvalidOperation")) = _; rw [ca_InvalidIndex, ca_InvalidOperation]; exact kit_kc T.qm_InvalidIndex_InvalidOperation T.ks_InvalidOperation T.ky_InvalidOperation) (ec_InvalidIndex T) <| XTab.ok_cons (by show PySem.W.kitOne K (.ref ((ga K Z).ca "InvalidIndex")) (.ref ((ga K Z).ca "InvalidSize")) = _; rw [ca_InvalidIndex, ca_InvalidSize]; exact kit_kc T.qm_InvalidIndex_InvalidSize T.ks_InvalidSize T.ky_InvalidSize) (ec_InvalidIndex T) <| XTab.ok_cons (by show PySem.W.kitOne K (.ref ((ga K Z).ca "InvalidIndex")) (.ref ((ga K Z).ca "InvalidText")) = _; rw [ca_InvalidIndex, ca_InvalidText]; exact kit_kc T.qm_InvalidIndex_InvalidText T.ks_InvalidText T.ky_InvalidText) (ec_InvalidIndex T) <| XTab.ok_cons (by show PySem.W.kitOne K (.ref ((ga K Z).ca "InvalidIndex")) (.ref ((ga K Z).ca "InvalidWord")) = _; rw [ca_InvalidIndex, ca_InvalidWord]; exact kit_kc T.qm_InvalidIndex_InvalidWord T.ks_InvalidWord T.ky_InvalidWord) (ec_InvalidIndex T) <| XTab.ok_cons (by show PySem.W.kitOne K (.ref ((ga K Z).ca "InvalidIndex")) (.ref ((ga K Z).ca "LaceError")) = _; rw [ca_InvalidIndex, ca_LaceError]; exact kit_kc T.qm_InvalidIndex_LaceError T.ks_LaceError T.ky_LaceError) (ec_InvalidIndex T) <| XTab.ok_cons (by show PySem.W.kitOne K (.ref ((ga K Z).ca "InvalidIndex")) (.ref ((ga K Z).ca "Nothing")) = _; rw [ca_InvalidIndex, ca_Nothing]; exact kit_kc T.qm_InvalidIndex_Nothing T.ks_Nothing T.ky_Nothing) (ec_InvalidIndex T) <| XTab.ok_cons (by show PySem.W.kitOne K (.ref ((ga K Z).ca "InvalidIndex")) (.ref ((ga K Z).ca "OverBudget")) = _; rw [ca_InvalidIndex, ca_OverBudget]; exact kit_kc T.qm_InvalidIndex_OverBudget T.ks_OverBudget T.ky_OverBudget) (ec_InvalidIndex T) <| XTab.ok_cons (by show PySem.W.kitOne K (.ref ((ga K Z).ca "InvalidIndex")) (.ref ((ga K Z).ca "TooMany")) = _; rw [ca_InvalidIndex, ca_TooMany]; exact kit_kc T.qm_InvalidIndex_TooMany T.ks_TooMany T.ky_TooMany) (ec_InvalidIndex T) <| XTab.ok_cons (by show PySem.W.kitOne K (.ref ((ga K Z).ca "InvalidIndex")) (.ref ((ga K Z).ca "UnlikeGrids")) = _; rw [ca_InvalidIndex, ca_UnlikeGrids]; exact kit_kc T.qm_InvalidIndex_UnlikeGrids T.ks_UnlikeGrids T.ky_UnlikeGrids) (ec_InvalidIndex T) <| XTab.ok_cons (by rw [ca_InvalidIndex]; exact kit_kt T.qm_InvalidIndex_ValueError (by decide +kernel)) (ec_InvalidIndex T) <| XTab.ok_nil
def xtab_InvalidKey : XTab := [("InvalidKey", (false, "InvalidBits"), false), ("InvalidKey", (false, "InvalidBox"), false), ("InvalidKey", (false, "InvalidBoxes"), false), ("InvalidKey", (false, "InvalidBudget"), false), ("InvalidKey", (false, "InvalidCell"), false), ("InvalidKey", (false, "InvalidCommand"), false), ("InvalidKey", (false, "InvalidIndex"), false), ("InvalidKey", (false, "InvalidKey"), true), ("InvalidKey", (false, "InvalidLayout"), false), ("InvalidKey", (false, "InvalidLoad"), false), ("InvalidKey", (false, "InvalidNumber"), false), ("InvalidKey", (false, "InvalidOperation"), false), ("InvalidKey", (false, "InvalidSize"), false), ("InvalidKey", (false, "InvalidText"), false), ("InvalidKey", (false, "InvalidWord"), false), ("InvalidKey", (false, "LaceError"), true), ("InvalidKey", (false, "Nothing"), false), ("InvalidKey", (false, "OverBudget"), false), ("InvalidKey", (false, "TooMany"), false), ("InvalidKey", (false, "UnlikeGrids"), false), ("InvalidKey", (true, "ValueError"), true)]
theorem xq_InvalidKey {K : PySem.W.Frag} {mg : Str → Option Value} {Z : Ads} (T : Top K mg Z) : xtab_InvalidKey.Ok (ga K Z) :=
  XTab.ok_cons (by show PySem.W.kitOne K (.ref ((ga K Z).ca "InvalidKey")) (.ref ((ga K Z).ca "InvalidBits")) = _; rw [ca_InvalidKey, ca_InvalidBits]; exact kit_kc T.qm_InvalidKey_InvalidBits T.ks_InvalidBits T.ky_InvalidBits) (ec_InvalidKey T) <| XTab.ok_cons (by show PySem.W.kitOne K (.ref ((ga K Z).ca "InvalidKey")) (.ref ((ga K Z).ca "InvalidBox")) = _; rw [ca_InvalidKey, ca_InvalidBox]; exact kit_kc T.qm_InvalidKey_InvalidBox T.ks_InvalidBox T.ky_InvalidBox) (ec_InvalidKey T) <| XTab.ok_cons (by show PySem.W.kitOne K (.ref ((ga K Z).ca "InvalidKey")) (.ref ((ga K Z).ca "InvalidBoxes")) = _; rw [ca_InvalidKey, ca_InvalidBoxes]; exact kit_kc T.qm_InvalidKey_InvalidBoxes T.ks_InvalidBoxes T.ky_InvalidBoxes) (ec_InvalidKey T) <| XTab.ok_cons (by show PySem.W.kitOne K (.ref ((ga K Z).ca "InvalidKey")) (.ref ((ga K Z).ca "InvalidBudget")) = _; rw [ca_InvalidKey, ca_InvalidBudget]; exact kit_kc T.qm_InvalidKey_InvalidBudget T.ks_InvalidBudget T.ky_InvalidBudget) (ec_InvalidKey T) <| XTab.ok_cons (by show PySem.W.kitOne K (.ref ((ga K Z).ca "InvalidKey")) (.ref ((ga K Z).ca "InvalidCell")) = _; rw [ca_InvalidKey, ca_InvalidCell]; exact kit_kc T.qm_InvalidKey_InvalidCell T.ks_InvalidCell T.ky_InvalidCell) (ec_InvalidKey T) <| XTab.ok_cons (by show PySem.W.kitOne K (.ref ((ga K Z).ca "InvalidKey")) (.ref ((ga K Z).ca "InvalidCommand")) = _; rw [ca_InvalidKey, ca_InvalidCommand]; exact kit_kc T.qm_InvalidKey_InvalidCommand T.ks_InvalidCommand T.ky_InvalidCommand) (ec_InvalidKey T) <| XTab.ok_cons (by show PySem.W.kitOne K (.ref ((ga K Z).ca "InvalidKey")) (.ref ((ga K Z).ca "InvalidIndex")) = _; rw [ca_InvalidKey, ca_InvalidIndex]; exact kit_kc T.qm_InvalidKey_InvalidIndex T.ks_InvalidIndex T.ky_InvalidIndex) (ec_InvalidKey T) <| XTab.ok_cons (by show PySem.W.kitOne K (.ref ((ga K Z).ca "InvalidKey")) (.ref ((ga K Z).ca "InvalidKey")) = _; rw [ca_InvalidKey]; exact Lk.kitOne_self _ _) (ec_InvalidKey T) <| XTab.ok_cons (by show PySem.W.kitOne K (.ref ((ga K Z).ca "InvalidKey")) (.ref ((ga K Z).ca "InvalidLayout")) = _; rw [ca_InvalidKey, ca_InvalidLayout]; exact kit_kc T.qm_InvalidKey_InvalidLayout T.ks_InvalidLayout T.ky_InvalidLayout) (ec_InvalidKey T) <| XTab.ok_cons (by show PySem.W.kitOne K (.ref ((ga K Z).ca "InvalidKey")) (.ref ((ga K Z).ca "InvalidLoad")) = _; rw [ca_InvalidKey, ca_InvalidLoad]; exact kit_kc T.qm_InvalidKey_InvalidLoad T.ks_InvalidLoad T.ky_InvalidLoad) (ec_InvalidKey T) <| XTab.ok_cons (by show PySem.W.kitOne K (.ref ((ga K Z).ca "InvalidKey")) (.ref ((ga K Z).ca "InvalidNumber")) = _; rw [ca_InvalidKey, ca_InvalidNumber]; exact kit_kc T.qm_InvalidKey_InvalidNumber T.ks_InvalidNumber T.ky_InvalidNumber) (ec_InvalidKey T) <| XTab.ok_cons (by show PySem.W.kitOne K (.ref ((ga K Z).ca "InvalidKey")) (.ref ((ga K Z).ca "InvalidOperation")) = _; rw [ca_InvalidKey, ca_InvalidOperation]; exact kit_kc T.qm_InvalidKey_InvalidOperation T.ks_InvalidOperation T.ky_InvalidOperation) (ec_InvalidKey T) <| XTab.ok_cons (by show PySem.W.kitOne K (.ref ((ga K Z).ca "InvalidKey")) (.ref ((ga K Z).ca "InvalidSize")) = _; rw [ca_InvalidKey, ca_InvalidSize]; exact kit_kc T.qm_InvalidKey_InvalidSize T.ks_InvalidSize T.ky_InvalidSize) (ec_InvalidKey T) <| XTab.ok_cons (by show PySem.W.kitOne K (.ref ((ga K Z).ca "InvalidKey")) (.ref ((ga K Z).ca "InvalidText")) = _; rw [ca_InvalidKey, ca_InvalidText]; exact kit_kc T.qm_InvalidKey_InvalidText T.ks_InvalidText T.ky_InvalidText) (ec_InvalidKey T) <| XTab.ok_cons (by show PySem.W.kitOne K (.ref ((ga K Z).ca "InvalidKey")) (.ref ((ga K Z).ca "InvalidWord")) = _; rw [ca_InvalidKey, ca_InvalidWord]; exact kit_kc T.qm_InvalidKey_InvalidWord T.ks_InvalidWord T.ky_InvalidWord) (ec_InvalidKey T) <| XTab.ok_cons (by show PySem.W.kitOne K (.ref ((ga K Z).ca "InvalidKey")) (.ref ((ga K Z).ca "LaceError")) = _; rw [ca_InvalidKey, ca_LaceError]; exact kit_kc T.qm_InvalidKey_LaceError T.ks_LaceError T.ky_LaceError) (ec_InvalidKey T) <| XTab.ok_cons (by show PySem.W.kitOne K (.ref ((ga K Z).ca "InvalidKey")) (.ref ((ga K Z).ca "Nothing")) = _; rw [ca_InvalidKey, ca_Nothing]; exact kit_kc T.qm_InvalidKey_Nothing T.ks_Nothing T.ky_Nothing) (ec_InvalidKey T) <| XTab.ok_cons (by show PySem.W.kitOne K (.ref ((ga K Z).ca "InvalidKey")) (.ref ((ga K Z).ca "OverBudget")) = _; rw [ca_InvalidKey, ca_OverBudget]; exact kit_kc T.qm_InvalidKey_OverBudget T.ks_OverBudget T.ky_OverBudget) (ec_InvalidKey T) <| XTab.ok_cons (by show PySem.W.kitOne K (.ref ((ga K Z).ca "InvalidKey")) (.ref ((ga K Z).ca "TooMany")) = _; rw [ca_InvalidKey, ca_TooMany]; exact kit_kc T.qm_InvalidKey_TooMany T.ks_TooMany T.ky_TooMany) (ec_InvalidKey T) <| XTab.ok_cons (by show PySem.W.kitOne K (.ref ((ga K Z).ca "InvalidKey")) (.ref ((ga K Z).ca "UnlikeGrids")) = _; rw [ca_InvalidKey, ca_UnlikeGrids]; exact kit_kc T.qm_InvalidKey_UnlikeGrids T.ks_UnlikeGrids T.ky_UnlikeGrids) (ec_InvalidKey T) <| XTab.ok_cons (by rw [ca_InvalidKey]; exact kit_kt T.qm_InvalidKey_ValueError (by decide +kernel)) (ec_InvalidKey T) <| XTab.ok_nil
def xtab_InvalidLayout : XTab := [("InvalidLayout", (false, "InvalidBits"), false), ("InvalidLayout", (false, "InvalidBox"), false), ("InvalidLayout", (false, "InvalidBoxes"), false), ("InvalidLayout", (false, "InvalidBudget"), false), ("InvalidLayout", (false, "InvalidCell"), false), ("InvalidLayout", (false, "InvalidCommand"), false), ("InvalidLayout", (false, "InvalidIndex"), false), ("InvalidLayout", (false, "InvalidKey"), false), ("InvalidLayout", (false, "InvalidLayout"), true), ("InvalidLayout", (false, "InvalidLoad"), false), ("InvalidLayout", (false, "InvalidNumber"), false), ("InvalidLayout", (false, "InvalidOperation"), false), ("InvalidLayout", (false, "InvalidSize"), false), ("InvalidLayout", (false, "InvalidText"), false), ("InvalidLayout", (false, "InvalidWord"), false), ("InvalidLayout", (false, "LaceError"), true), ("InvalidLayout", (false, "Nothing"), false), ("InvalidLayout", (false, "OverBudget"), false), ("InvalidLayout", (false, "TooMany"), false), ("InvalidLayout", (false, "UnlikeGrids"), false), ("InvalidLayout", (true, "ValueError"), true)]
theorem xq_InvalidLayout {K : PySem.W.Frag} {mg : Str → Option Value} {Z : Ads} (T : Top K mg Z) : xtab_InvalidLayout.Ok (ga K Z) :=
  XTab.ok_cons (by show PySem.W.kitOne K (.ref ((ga K Z).ca "InvalidLayout")) (.ref ((ga K Z).ca "InvalidBits")) = _; rw [ca_InvalidLayout, ca_InvalidBits]; exact kit_kc T.qm_InvalidLayout_InvalidBits T.ks_InvalidBits T.ky_InvalidBits) (ec_InvalidLayout T) <| XTab.ok_cons (by show PySem.W.kitOne K (.ref ((ga K Z).ca "InvalidLayout")) (.ref ((ga K Z).ca "InvalidBox")) = _; rw [ca_InvalidLayout, ca_InvalidBox]; exact kit_kc T.qm_InvalidLayout_InvalidBox T.ks_InvalidBox T.ky_InvalidBox) (ec_InvalidLayout T) <| XTab.ok_cons (by show PySem.W.kitOne K (.ref ((ga K Z).ca "InvalidLayout")) (.ref ((ga K Z).ca "InvalidBoxes")) = _; rw [ca_InvalidLayout, ca_InvalidBoxes]; exact kit_kc T.qm_InvalidLayout_InvalidBoxes T.ks_InvalidBoxes T.ky_InvalidBoxes) (ec_InvalidLayout T) <| XTab.ok_cons (by show PySem.W.kitOne K (.ref ((ga K Z).ca "InvalidLayout")) (.ref ((ga K Z).ca "InvalidBudget")) = _; rw [ca_InvalidLayout, ca_InvalidBudget]; exact kit_kc T.qm_InvalidLayout_InvalidBudget T.ks_InvalidBudget T.ky_InvalidBudget) (ec_InvalidLayout T) <| XTab.ok_cons (by show PySem.W.kitOne K (.ref ((ga K Z).ca "InvalidLayout")) (.ref ((ga K Z).ca "InvalidCell")) = _; rw [ca_InvalidLayout, ca_InvalidCell]; exact kit_kc T.qm_InvalidLayout_InvalidCell T.ks_InvalidCell T.ky_InvalidCell) (ec_InvalidLayout T) <| XTab.ok_cons (by show PySem.W.kitOne K (.ref ((ga K Z).ca "InvalidLayout")) (.ref ((ga K Z).ca "InvalidCommand")) = _; rw [ca_InvalidLayout, ca_InvalidCommand]; exact kit_kc T.qm_InvalidLayout_InvalidCommand T.ks_InvalidCommand T.ky_InvalidCommand) (ec_InvalidLayout T) <| XTab.ok_cons (by show PySem.W.kitOne K (.ref ((ga K Z).ca "InvalidLayout")) (.ref ((ga K Z).ca "InvalidIndex")) = _; rw [ca_InvalidLayout, ca_InvalidIndex]; exact kit_kc T.qm_InvalidLayout_InvalidIndex T.ks_InvalidIndex T.ky_InvalidIndex) (ec_InvalidLayout T) <| XTab.ok_cons (by show PySem.W.kitOne K (.ref ((ga K Z).ca "InvalidLayout")) (.ref ((ga K Z).ca "InvalidKey")) = _; rw [ca_InvalidLayout, ca_InvalidKey]; exact kit_kc T.qm_InvalidLayout_InvalidKey T.ks_InvalidKey T.ky_InvalidKey) (ec_InvalidLayout T) <| XTab.ok_cons (by show PySem.W.kitOne K (.ref ((ga K Z).ca "InvalidLayout")) (.ref ((ga K Z).ca "InvalidLayout")) = _; rw [ca_InvalidLayout]; exact Lk.kitOne_self _ _) (ec_InvalidLayout T) <| XTab.ok_cons (by show PySem.W.kitOne K (.ref ((ga K Z).ca "InvalidLayout")) (.ref ((ga K Z).ca "InvalidLoad")) = _; rw [ca_InvalidLayout, ca_InvalidLoad]; exact kit_kc T.qm_InvalidLayout_InvalidLoad T.ks_InvalidLoad T.ky_InvalidLoad) (ec_InvalidLayout T) <| XTab.ok_cons (by show PySem.W.kitOne K (.ref ((ga K Z).ca "InvalidLayout")) (.ref ((ga K Z).ca "InvalidNumber")) = _; rw [ca_InvalidLayout, ca_InvalidNumber]; exact kit_kc T.qm_InvalidLayout_InvalidNumber T.ks_InvalidNumber T.ky_InvalidNumber) (ec_InvalidLayout T) <| XTab.ok_cons (by show PySem.W.kitOne K (.ref ((ga K Z).ca "InvalidLayout")) (.ref ((ga K Z).ca "InvalidOperation")) = _; rw [ca_InvalidLayout, ca_InvalidOperation]; exact kit_kc T.qm_InvalidLayout_InvalidOperation T.ks_InvalidOperation T.ky_InvalidOperation) (ec_InvalidLayout T) <| XTab.ok_cons (by show PySem.W.kitOne K (.ref ((ga K Z).ca "InvalidLayout")) (.ref ((ga K Z).ca "InvalidSize")) = _; rw [ca_InvalidLayout, ca_InvalidSize]; exact kit_kc T.qm_InvalidLayout_InvalidSize T.ks_InvalidSize T.ky_InvalidSize) (ec_InvalidLayout T) <| XTab.ok_cons (by show PySem.W.kitOne K (.ref ((ga K Z).ca "InvalidLayout")) (.ref ((ga K Z).ca "InvalidText")) = _; rw [ca_InvalidLayout, ca_InvalidText]; exact kit_kc T.qm_InvalidLayout_InvalidText T.ks_InvalidText T.ky_InvalidText) (ec_InvalidLayout T) <| XTab.ok_cons (by show PySem.W.kitOne K (.ref ((ga K Z).ca "InvalidLayout")) (.ref ((ga K Z).ca "InvalidWord")) = _; rw [ca_InvalidLayout, ca_InvalidWord]; exact kit_kc T.qm_InvalidLayout_InvalidWord T.ks_InvalidWord T.ky_InvalidWord) (ec_InvalidLayout T) <| XTab.ok_cons (by show PySem.W.kitOne K (.ref ((ga K Z).ca "InvalidLayout")) (.ref ((ga K Z).ca "LaceError")) = _; rw [ca_InvalidLayout, ca_LaceError]; exact kit_kc T.qm_InvalidLayout_LaceError T.ks_LaceError T.ky_LaceError) (ec_InvalidLayout T) <| XTab.ok_cons (by show PySem.W.kitOne K (.ref ((ga K Z).ca "InvalidLayout")) (.ref ((ga K Z).ca "Nothing")) = _; rw [ca_InvalidLayout, ca_Nothing]; exact kit_kc T.qm_InvalidLayout_Nothing T.ks_Nothing T.ky_Nothing) (ec_InvalidLayout T) <| XTab.ok_cons (by show PySem.W.kitOne K (.ref ((ga K Z).ca "InvalidLayout")) (.ref ((ga K Z).ca "OverBudget")) = _; rw [ca_InvalidLayout, ca_OverBudget]; exact kit_kc T.qm_InvalidLayout_OverBudget T.ks_OverBudget T.ky_OverBudget) (ec_InvalidLayout T) <| XTab.ok_cons (by show PySem.W.kitOne K (.ref ((ga K Z).ca "InvalidLayout")) (.ref ((ga K Z).ca "TooMany")) = _; rw [ca_InvalidLayout, ca_TooMany]; exact kit_kc T.qm_InvalidLayout_TooMany T.ks_TooMany T.ky_TooMany) (ec_InvalidLayout T) <| XTab.ok_cons (by show PySem.W.kitOne K (.ref ((ga K Z).ca "InvalidLayout")) (.ref ((ga K Z).ca "UnlikeGrids")) = _; rw [ca_InvalidLayout, ca_UnlikeGrids]; exact kit_kc T.qm_InvalidLayout_UnlikeGrids T.ks_UnlikeGrids T.ky_UnlikeGrids) (ec_InvalidLayout T) <| XTab.ok_cons (by rw [ca_InvalidLayout]; exact kit_kt T.qm_InvalidLayout_ValueError (by decide +kernel)) (ec_InvalidLayout T) <| XTab.ok_nil
def xtab_InvalidLoad : XTab := [("InvalidLoad", (false, "InvalidBits"), false), ("InvalidLoad", (false, "InvalidBox"), false), ("InvalidLoad", (false, "InvalidBoxes"), false), ("InvalidLoad", (false, "InvalidBudget"), false), ("InvalidLoad", (false, "InvalidCell"), false), ("InvalidLoad", (false, "InvalidCommand"), false), ("InvalidLoad", (false, "InvalidIndex"), false), ("InvalidLoad", (false, "InvalidKey"), false), ("InvalidLoad", (false, "InvalidLayout"), false), ("InvalidLoad", (false, "InvalidLoad"), true), ("InvalidLoad", (false, "InvalidNumber"), false), ("InvalidLoad", (false, "InvalidOperation"), false), ("InvalidLoad", (false, "InvalidSize"), false), ("InvalidLoad", (false, "InvalidText"), false), ("InvalidLoad", (false, "InvalidWord"), false), ("InvalidLoad", (false, "LaceError"), true), ("InvalidLoad", (false, "Nothing"), false), ("InvalidLoad", (false, "OverBudget"), false), ("InvalidLoad", (false, "TooMany"), false), ("InvalidLoad", (false, "UnlikeGrids"), false), ("InvalidLoad", (true, "ValueError"), true)]
theorem xq_InvalidLoad {K : PySem.W.Frag} {mg : Str → Option Value} {Z : Ads} (T : Top K mg Z) : xtab_InvalidLoad.Ok (ga K Z) :=
  XTab.ok_cons (by show PySem.W.kitOne K (.ref ((ga K Z).ca "InvalidLoad")) (.ref ((ga K Z).ca "InvalidBits")) = _; rw [ca_InvalidLoad, ca_InvalidBits]; exact kit_kc T.qm_InvalidLoad_InvalidBits T.ks_InvalidBits T.ky_InvalidBits) (ec_InvalidLoad T) <| XTab.ok_cons (by show PySem.W.kitOne K (.ref ((ga K Z).ca "InvalidLoad")) (.ref ((ga K Z).ca "InvalidBox")) = _; rw [ca_InvalidLoad, ca_InvalidBox]; exact kit_kc T.qm_InvalidLoad_InvalidBox T.ks_InvalidBox T.ky_InvalidBox) (ec_InvalidLoad T) <| XTab.ok_cons (by show PySem.W.kitOne K (.ref ((ga K Z).ca "InvalidLoad")) (.ref ((ga K Z).ca "InvalidBoxes")) = _; rw [ca_InvalidLoad, ca_InvalidBoxes]; exact kit_kc T.qm_InvalidLoad_InvalidBoxes T.ks_InvalidBoxes T.ky_InvalidBoxes) (ec_InvalidLoad T) <| XTab.ok_cons (by show PySem.W.kitOne K (.ref ((ga K Z).ca "InvalidLoad")) (.ref ((ga K Z).ca "InvalidBudget")) = _; rw [ca_InvalidLoad, ca_InvalidBudget]; exact kit_kc T.qm_InvalidLoad_InvalidBudget T.ks_InvalidBudget T.ky_InvalidBudget) (ec_InvalidLoad T) <| XTab.ok_cons (by show PySem.W.kitOne K (.ref ((ga K Z).ca "InvalidLoad")) (.ref ((ga K Z).ca "InvalidCell")) = _; rw [ca_InvalidLoad, ca_InvalidCell]; exact kit_kc T.qm_InvalidLoad_InvalidCell T.ks_InvalidCell T.ky_InvalidCell) (ec_InvalidLoad T) <| XTab.ok_cons (by show PySem.W.kitOne K (.ref ((ga K Z).ca "InvalidLoad")) (.ref ((ga K Z).ca "InvalidCommand")) = _; rw [ca_InvalidLoad, ca_InvalidCommand]; exact kit_kc T.qm_InvalidLoad_InvalidCommand T.ks_InvalidCommand T.ky_InvalidCommand) (ec_InvalidLoad T) <| XTab.ok_cons (by show PySem.W.kitOne K (.ref ((ga K Z).ca "InvalidLoad")) (.ref ((ga K Z).ca "InvalidIndex")) = _; rw [ca_InvalidLoad, ca_InvalidIndex]; exact kit_kc T.qm_InvalidLoad_InvalidIndex T.ks_InvalidIndex T.ky_InvalidIndex) (ec_InvalidLoad T) <| XTab.ok_cons (by show PySem.W.kitOne K (.ref ((ga K Z).ca "InvalidLoad")) (.ref ((ga K Z).ca "InvalidKey")) = _; rw [ca_InvalidLoad, ca_InvalidKey]; exact kit_kc T.qm_InvalidLoad_InvalidKey T.ks_InvalidKey T.ky_InvalidKey) (ec_InvalidLoad T) <| XTab.ok_cons (by show PySem.W.kitOne K (.ref ((ga K Z).ca "InvalidLoad")) (.ref ((ga K Z).ca "InvalidLayout")) = _; rw [ca_InvalidLoad, ca_InvalidLayout]; exact kit_kc T.qm_InvalidLoad_InvalidLayout T.ks_InvalidLayout T.ky_InvalidLayout) (ec_InvalidLoad T) <| XTab.ok_cons (by show PySem.W.kitOne K (.ref ((ga K Z).ca "InvalidLoad")) (.ref ((ga K Z).ca "InvalidLoad")) = _; rw [ca_InvalidLoad]; exact Lk.kitOne_self _ _) (ec_InvalidLoad T) <| XTab.ok_cons (by show PySem.W.kitOne K (.ref ((ga K Z).ca "InvalidLoad")) (.ref ((ga K Z).ca "InvalidNumber")) = _; rw [ca_InvalidLoad, ca_InvalidNumber]; exact kit_kc T.qm_InvalidLoad_InvalidNumber T.ks_InvalidNumber T.ky_InvalidNumber) (ec_InvalidLoad T) <| XTab.ok_cons (by show PySem.W.kitOne K (.ref ((ga K Z).ca "InvalidLoad")) (.ref ((ga K Z).ca "InvalidOperation")) = _; rw [ca_InvalidLoad, ca_InvalidOperation]; exact kit_kc T.qm_InvalidLoad_InvalidOperation T.ks_InvalidOperation T.ky_InvalidOperation) (ec_InvalidLoad T) <| XTab.ok_cons (by show PySem.W.kitOne K (.ref ((ga K Z).ca "InvalidLoad")) (.ref ((ga K Z).ca "InvalidSize")) = _; rw [ca_InvalidLoad, ca_InvalidSize]; exact kit_kc T.qm_InvalidLoad_InvalidSize T.ks_InvalidSize T.ky_InvalidSize) (ec_InvalidLoad T) <| XTab.ok_cons (by show PySem.W.kitOne K (.ref ((ga K Z).ca "InvalidLoad")) (.ref ((ga K Z).ca "InvalidText")) = _; rw [ca_InvalidLoad, ca_InvalidText]; exact kit_kc T.qm_InvalidLoad_InvalidText T.ks_InvalidText T.ky_InvalidText) (ec_InvalidLoad T) <| XTab.ok_cons (by show PySem.W.kitOne K (.ref ((ga K Z).ca "InvalidLoad")) (.ref ((ga K Z).ca "InvalidWord")) = _; rw [ca_InvalidLoad, ca_InvalidWord]; exact kit_kc T.qm_InvalidLoad_InvalidWord T.ks_InvalidWord T.ky_InvalidWord) (ec_InvalidLoad T) <| XTab.ok_cons (by show PySem.W.kitOne K (.ref ((ga K Z).ca "InvalidLoad")) (.ref ((ga K Z).ca "LaceError")) = _; rw [ca_InvalidLoad, ca_LaceError]; exact kit_kc T.qm_InvalidLoad_LaceError T.ks_LaceError T.ky_LaceError) (ec_InvalidLoad T) <| XTab.ok_cons (by show PySem.W.kitOne K (.ref ((ga K Z).ca "InvalidLoad")) (.ref ((ga K Z).ca "Nothing")) = _; rw [ca_InvalidLoad, ca_Nothing]; exact kit_kc T.qm_InvalidLoad_Nothing T.ks_Nothing T.ky_Nothing) (ec_InvalidLoad T) <| XTab.ok_cons (by show PySem.W.kitOne K (.ref ((ga K Z).ca "InvalidLoad")) (.ref ((ga K Z).ca "OverBudget")) = _; rw [ca_InvalidLoad, ca_OverBudget]; exact kit_kc T.qm_InvalidLoad_OverBudget T.ks_OverBudget T.ky_OverBudget) (ec_InvalidLoad T) <| XTab.ok_cons (by show PySem.W.kitOne K (.ref ((ga K Z).ca "InvalidLoad")) (.ref ((ga K Z).ca "TooMany")) = _; rw [ca_InvalidLoad, ca_TooMany]; exact kit_kc T.qm_InvalidLoad_TooMany T.ks_TooMany T.ky_TooMany) (ec_InvalidLoad T) <| XTab.ok_cons (by show PySem.W.kitOne K (.ref ((ga K Z).ca "InvalidLoad")) (.ref ((ga K Z).ca "UnlikeGrids")) = _; rw [ca_InvalidLoad, ca_UnlikeGrids]; exact kit_kc T.qm_InvalidLoad_UnlikeGrids T.ks_UnlikeGrids T.ky_UnlikeGrids) (ec_InvalidLoad T) <| XTab.ok_cons (by rw [ca_InvalidLoad]; exact kit_kt T.qm_InvalidLoad_ValueError (by decide +kernel)) (ec_InvalidLoad T) <| XTab.ok_nil
def xtab_InvalidNumber : XTab := [("InvalidNumber", (false, "InvalidBits"), false), ("InvalidNumber", (false, "InvalidBox"), false), ("InvalidNumber", (false, "InvalidBoxes"), false), ("InvalidNumber", (false, "InvalidBudget"), false), ("InvalidNumber", (false, "InvalidCell"), false), ("InvalidNumber", (false, "InvalidCommand"), false), ("InvalidNumber", (false, "InvalidIndex"), false), ("InvalidNumber", (false, "InvalidKey"), false), ("InvalidNumber", (false, "InvalidLayout"), false), ("InvalidNumber", (false, "InvalidLoad"), false), ("InvalidNumber", (false, "InvalidNumber"), true), ("InvalidNumber", (false, "InvalidOperation"), false), ("InvalidNumber", (false, "InvalidSize"), false), ("InvalidNumber", (false, "InvalidText"), false), ("InvalidNumber", (false, "InvalidWord"), false), ("InvalidNumber", (false, "LaceError"), true), ("InvalidNumber", (false, "Nothing"), false), ("InvalidNumber", (false, "OverBudget"), false), ("InvalidNumber", (false, "TooMany"), false), ("InvalidNumber", (false, "UnlikeGrids"), false), ("InvalidNumber", (true, "ValueError"), true)]
theorem xq_InvalidNumber {K : PySem.W.Frag} {mg : Str → Option Value} {Z : Ads} (T : Top K mg Z) : xtab_InvalidNumber.Ok (ga K Z) :=
  XTab.ok_cons (by show PySem.W.kitOne K (.ref ((ga K Z).ca "InvalidNumber")) (.ref ((ga K Z).ca "InvalidBits")) = _; rw [ca_InvalidNumber, ca_InvalidBits]; exact kit_kc T.qm_InvalidNumber_InvalidBits T.ks_InvalidBits T.ky_InvalidBits) (ec_InvalidNumber T) <| XTab.ok_cons (by show PySem.W.kitOne K (.ref ((ga K Z).ca "InvalidNumber")) (.ref ((ga K Z).ca "InvalidBox")) = _; rw [ca_InvalidNumber, ca_InvalidBox]; exact kit_kc T.qm_InvalidNumber_InvalidBox T.ks_InvalidBox T.ky_InvalidBox) (ec_InvalidNumber T) <| XTab.ok_cons (by show PySem.W.kitOne K (.ref ((ga K Z).ca "InvalidNumber")) (.ref ((ga K Z).ca "InvalidBoxes")) = _; rw [ca_InvalidNumber, ca_InvalidBoxes]; exact kit_kc T.qm_InvalidNumber_InvalidBoxes T.ks_InvalidBoxes T.ky_InvalidBoxes) (ec_InvalidNumber T) <| XTab.ok_cons (by show PySem.W.kitOne K (.ref ((ga K Z).ca "InvalidNumber")) (.ref ((ga K Z).ca "InvalidBudget")) = _; rw [ca_InvalidNumber, ca_InvalidBudget]; exact kit_kc T.qm_InvalidNumber_InvalidBudget T.ks_InvalidBudget T.ky_InvalidBudget) (ec_InvalidNumber T) <| XTab.ok_cons (by show PySem.W.kitOne K (.ref ((ga K Z).ca "InvalidNumber")) (.ref ((ga K Z).ca "InvalidCell")) = _; rw [ca_InvalidNumber, ca_InvalidCell]; exact kit_kc T.qm_InvalidNumber_InvalidCell T.ks_InvalidCell T.ky_InvalidCell) (ec_InvalidNumber T) <| XTab.ok_cons (by show PySem.W.kitOne K (.ref ((ga K Z).ca "InvalidNumber")) (.ref ((ga K Z).ca "InvalidCommand")) = _; rw [ca_InvalidNumber, ca_InvalidCommand]; exact kit_kc T.qm_InvalidNumber_InvalidCommand T.ks_InvalidCommand T.ky_InvalidCommand) (ec_InvalidNumber T) <| XTab.ok_cons (by show PySem.W.kitOne K (.ref ((ga K Z).ca "InvalidNumber")) (.ref ((ga K Z).ca "InvalidIndex")) = _; rw [ca_InvalidNumber, ca_InvalidIndex]; exact kit_kc T.qm_InvalidNumber_InvalidIndex T.ks_InvalidIndex T.ky_InvalidIndex) (ec_InvalidNumber T) <| XTab.ok_cons (by show PySem.W.kitOne K (.ref ((ga K Z).ca "InvalidNumber")) (.ref ((ga K Z).ca "InvalidKey")) = _; rw [ca_InvalidNumber, ca_InvalidKey]; exact kit_kc T.qm_InvalidNumber_InvalidKey T.ks_InvalidKey T.ky_InvalidKey) (ec_InvalidNumber T) <| XTab.ok_cons (by show PySem.W.kitOne K (.ref ((ga K Z).ca "InvalidNumber")) (.ref ((ga K Z).ca "InvalidLayout")) = _; rw [ca_InvalidNumber, ca_InvalidLayout]; exact kit_kc T.qm_InvalidNumber_InvalidLayout T.ks_InvalidLayout T.ky_InvalidLayout) (ec_InvalidNumber T) <| XTab.ok_cons (by show PySem.W.kitOne K (.ref ((ga K Z).ca "InvalidNumber")) (.ref ((ga K Z).ca "InvalidLoad")) = _; rw [ca_InvalidNumber, ca_InvalidLoad]; exact kit_kc T.qm_InvalidNumber_InvalidLoad T.ks_InvalidLoad T.ky_InvalidLoad) (ec_InvalidNumber T) <| XTab.ok_cons (by show PySem.W.kitOne K (.ref ((ga K Z).ca "InvalidNumber")) (.ref ((ga K Z).ca "InvalidNumber")) = _; rw [ca_InvalidNumber]; exact Lk.kitOne_self _ _) (ec_InvalidNumber T) <| XTab.ok_cons (by show PySem.W.kitOne K (.ref ((ga K Z).ca "InvalidNumber")) (.ref ((ga K Z).ca "InvalidOperation")) = _; rw [ca_InvalidNumber, ca_InvalidOperation]; exact kit_kc T.qm_InvalidNumber_InvalidOperation T.ks_InvalidOperation T.ky_InvalidOperation) (ec_InvalidNumber T) <| XTab.ok_cons (by show PySem.W.kitOne K (.ref ((ga K Z).ca "InvalidNumber")) (.ref ((ga K Z).ca "InvalidSize")) = _; rw [ca_InvalidNumber, ca_InvalidSize]; exact kit_kc T.qm_InvalidNumber_InvalidSize T.ks_InvalidSize T.ky_InvalidSize) (ec_InvalidNumber T) <| XTab.ok_cons (by show PySem.W.kitOne K (.ref ((ga K Z).ca "InvalidNumber")) (.ref ((ga K Z).ca "InvalidText")) = _; rw [ca_InvalidNumber, ca_InvalidText]; exact kit_kc T.qm_InvalidNumber_InvalidText T.ks_InvalidText T.ky_InvalidText) (ec_InvalidNumber T) <| XTab.ok_cons (by show PySem.W.kitOne K (.ref ((ga K Z).ca "InvalidNumber")) (.ref ((ga K Z).ca "InvalidWord")) = _; rw [ca_InvalidNumber, ca_InvalidWord]; exact kit_kc T.qm_InvalidNumber_InvalidWord T.ks_InvalidWord T.ky_InvalidWord) (ec_InvalidNumber T) <| XTab.ok_cons (by show PySem.W.kitOne K (.ref ((ga K Z).ca "InvalidNumber")) (.ref ((ga K Z).ca "LaceError")) = _; rw [ca_InvalidNumber, ca_LaceError]; exact kit_kc T.qm_InvalidNumber_LaceError T.ks_LaceError T.ky_LaceError) (ec_InvalidNumber T) <| XTab.ok_cons (by show PySem.W.kitOne K (.ref ((ga K Z).ca "InvalidNumber")) (.ref ((ga K Z).ca "Nothing")) = _; rw [ca_InvalidNumber, ca_Nothing]; exact kit_kc T.qm_InvalidNumber_Nothing T.ks_Nothing T.ky_Nothing) (ec_InvalidNumber T) <| XTab.ok_cons (by show PySem.W.kitOne K (.ref ((ga K Z).ca "InvalidNumber")) (.ref ((ga K Z).ca "OverBudget")) = _; rw [ca_InvalidNumber, ca_OverBudget]; exact kit_kc T.qm_InvalidNumber_OverBudget T.ks_OverBudget T.ky_OverBudget) (ec_InvalidNumber T) <| XTab.ok_cons (by show PySem.W.kitOne K (.ref ((ga K Z).ca "InvalidNumber")) (.ref ((ga K Z).ca "TooMany")) = _; rw [ca_InvalidNumber, ca_TooMany]; exact kit_kc T.qm_InvalidNumber_TooMany T.ks_TooMany T.ky_TooMany) (ec_InvalidNumber T) <| XTab.ok_cons (by show PySem.W.kitOne K (.ref ((ga K Z).ca "InvalidNumber")) (.ref ((ga K Z).ca "UnlikeGrids")) = _; rw [ca_InvalidNumber, ca_UnlikeGrids]; exact kit_kc T.qm_InvalidNumber_UnlikeGrids T.ks_UnlikeGrids T.ky_UnlikeGrids) (ec_InvalidNumber T) <| XTab.ok_cons (by rw [ca_InvalidNumber]; exact kit_kt T.qm_InvalidNumber_ValueError (by decide +kernel)) (ec_InvalidNumber T) <| XTab.ok_nil
def xtab_InvalidOperation : XTab := [("InvalidOperation", (false, "InvalidBits"), false), ("InvalidOperation", (false, "InvalidBox"), false), ("InvalidOperation", (false, "InvalidBoxes"), false), ("InvalidOperation", (false, "InvalidBudget"), false), ("InvalidOperation", (false, "InvalidCell"), false), ("InvalidOperation", (false, "InvalidCommand"), false), ("InvalidOperation", (false, "InvalidIndex"), false), ("InvalidOperation", (false, "InvalidKey"), false), ("InvalidOperation", (false, "InvalidLayout"), false), ("InvalidOperation", (false, "InvalidLoad"), false), ("InvalidOperation", (false, "InvalidNumber"), false), ("InvalidOperation", (false, "InvalidOperation"), true), ("InvalidOperation", (false, "InvalidSize"), false), ("InvalidOperation", (false, "InvalidText"), false), ("InvalidOperation", (false, "InvalidWord"), false), ("InvalidOperation", (false, "LaceError"), true), ("InvalidOperation", (false, "Nothing"), false), ("InvalidOperation", (false, "OverBudget"), false), ("InvalidOperation", (false, "TooMany"), false), ("InvalidOperation", (false, "UnlikeGrids"), false), ("InvalidOperation", (true, "ValueError"), true)]
theorem xq_InvalidOperation {K : PySem.W.Frag} {mg : Str → Option Value} {Z : Ads} (T : Top K mg Z) : xtab_InvalidOperation.Ok (ga K Z) :=
  XTab.ok_cons (by show PySem.W.kitOne K (.ref ((ga K Z).ca "InvalidOperation")) (.ref ((ga K Z).ca "InvalidBits")) = _; rw [ca_InvalidOperation, ca_InvalidBits]; exact kit_kc T.qm_InvalidOperation_InvalidBits T.ks_InvalidBits T.ky_InvalidBits) (ec_InvalidOperation T) <| XTab.ok_cons (by show PySem.W.kitOne K (.ref ((ga K Z).ca "InvalidOperation")) (.ref ((ga K Z).ca "InvalidBox")) = _; rw [ca_InvalidOperation, ca_InvalidBox]; exact kit_kc T.qm_InvalidOperation_InvalidBox T.ks_InvalidBox T.ky_InvalidBox) (ec_InvalidOperation T) <| XTab.ok_cons (by show PySem.W.kitOne K (.ref ((ga K Z).ca "InvalidOperation")) (.ref ((ga K Z).ca "InvalidBoxes")) = _; rw [ca_InvalidOperation, ca_InvalidBoxes]; exact kit_kc T.qm_InvalidOperation_InvalidBoxes T.ks_InvalidBoxes T.ky_InvalidBoxes) (ec_InvalidOperation T) <| XTab.ok_cons (by show PySem.W.kitOne K (.ref ((ga K Z).ca "InvalidOperation")) (.ref ((ga K Z).ca "InvalidBudget")) = _; rw [ca_InvalidOperation, ca_InvalidBudget]; exact kit_kc T.qm_InvalidOperation_InvalidBudget T.ks_InvalidBudget T.ky_InvalidBudget) (ec_InvalidOperation T) <| XTab.ok_cons (by show PySem.W.kitOne K (.ref ((ga K Z).ca "InvalidOperation")) (.ref ((ga K Z).ca "InvalidCell")) = _; rw [ca_InvalidOperation, ca_InvalidCell]; exact kit_kc T.qm_InvalidOperation_InvalidCell T.ks_InvalidCell T.ky_InvalidCell) (ec_InvalidOperation T) <| XTab.ok_cons (by show PySem.W.kitOne K (.ref ((ga K Z).ca "InvalidOperation")) (.ref ((ga K Z).ca "InvalidCommand")) = _; rw [ca_InvalidOperation, ca_InvalidCommand]; exact kit_kc T.qm_InvalidOperation_InvalidCommand T.ks_InvalidCommand T.ky_InvalidCommand) (ec_InvalidOperation T) <| XTab.ok_cons (by show PySem.W.kitOne K (.ref ((ga K Z).ca "InvalidOperation")) (.ref ((ga K Z).ca "InvalidIndex")) = _; rw [ca_InvalidOperation, ca_InvalidIndex]; exact kit_kc T.qm_InvalidOperation_InvalidIndex T.ks_InvalidIndex T.ky_InvalidIndex) (ec_InvalidOperation T) <| XTab.ok_cons (by show PySem.W.kitOne K (.ref ((ga K Z).ca "InvalidOperation")) (.ref ((ga K Z).ca "InvalidKey")) = _; rw [ca_InvalidOperation, ca_InvalidKey]; exact kit_kc T.qm_InvalidOperation_InvalidKey T.ks_InvalidKey T.ky_InvalidKey) (ec_InvalidOperation T) <| XTab.ok_cons (by show PySem.W.kitOne K (.ref ((ga K Z).ca "InvalidOperation")) (.ref ((ga K Z).ca "InvalidLayout")) = _; rw [ca_InvalidOperation, ca_InvalidLayout]; exact kit_kc T.qm_InvalidOperation_InvalidLayout T.ks_InvalidLayout T.ky_InvalidLayout) (ec_InvalidOperation T) <| XTab.ok_cons (by show PySem.W.kitOne K (.ref ((ga K Z).ca "InvalidOperation")) (.ref ((ga K Z).ca "InvalidLoad")) = _; rw [ca_InvalidOperation, ca_InvalidLoad]; exact kit_kc T.qm_InvalidOperation_InvalidLoad T.ks_InvalidLoad T.ky_InvalidLoad) (ec_InvalidOperation T) <| XTab.ok_cons (by show PySem.W.kitOne K (.ref ((ga K Z).ca "InvalidOperation")) (.ref ((ga K Z).ca "InvalidNumber")) = _; rw [ca_InvalidOperation, ca_InvalidNumber]; exact kit_kc T.qm_InvalidOperation_InvalidNumber T.ks_InvalidNumber T.ky_InvalidNumber) (ec_InvalidOperation T) <| XTab.ok_cons (by show PySem.W.kitOne K (.ref ((ga K Z).ca "InvalidOperation")) (.ref ((ga K Z).ca "InvalidOperation")) = _; rw [ca_InvalidOperation]; exact Lk.kitOne_self _ _) (ec_InvalidOperation T) <| XTab.ok_cons (by show PySem.W.kitOne K (.ref ((ga K Z).ca "InvalidOperation")) (.ref ((ga K Z).ca "InvalidSize")) = _; rw [ca_InvalidOperation, ca_InvalidSize]; exact kit_kc T.qm_InvalidOperation_InvalidSize T.ks_InvalidSize T.ky_InvalidSize) (ec_InvalidOperation T) <| XTab.ok_cons (by show PySem.W.kitOne K (.ref ((ga K Z).ca "InvalidOperation")) (.ref ((ga K Z).ca "InvalidText")) = _; rw [ca_InvalidOperation, ca_InvalidText]; exact kit_kc T.qm_InvalidOperation_InvalidText T.ks_InvalidText T.ky_InvalidText) (ec_InvalidOperation T) <| XTab.ok_cons (by show PySem.W.kitOne K (.ref ((ga K Z).ca "InvalidOperation")) (.ref ((ga K Z).ca "InvalidWord")) = _; rw [ca_InvalidOperation, ca_InvalidWord]; exact kit_kc T.qm_InvalidOperation_InvalidWord T.ks_InvalidWord T.ky_InvalidWord) (ec_InvalidOperation T) <| XTab.ok_cons (by show PySem.W.kitOne K (.ref ((ga K Z).ca "InvalidOperation")) (.ref ((ga K Z).ca "LaceError")) = _; rw [ca_InvalidOperation, ca_LaceError]; exact kit_kc T.qm_InvalidOperation_LaceError T.ks_LaceError T.ky_LaceError) (ec_InvalidOperation T) <| XTab.ok_cons (by show PySem.W.kitOne K (.ref ((ga K Z).ca "InvalidOperation")) (.ref ((ga K Z).ca "Nothing")) = _; rw [ca_InvalidOperation, ca_Nothing]; exact kit_kc T.qm_InvalidOperation_Nothing T.ks_Nothing T.ky_Nothing) (ec_InvalidOperation T) <| XTab.ok_cons (by show PySem.W.kitOne K (.ref ((ga K Z).ca "InvalidOperation")) (.ref ((ga K Z).ca "OverBudget")) = _; rw [ca_InvalidOperation, ca_OverBudget]; exact kit_kc T.qm_InvalidOperation_OverBudget T.ks_OverBudget T.ky_OverBudget) (ec_InvalidOperation T) <| XTab.ok_cons (by show PySem.W.kitOne K (.ref ((ga K Z).ca "InvalidOperation")) (.ref ((ga K Z).ca "TooMany")) = _; rw [ca_InvalidOperation, ca_TooMany]; exact kit_kc T.qm_InvalidOperation_TooMany T.ks_TooMany T.ky_TooMany) (ec_InvalidOperation T) <| XTab.ok_cons (by show PySem.W.kitOne K (.ref ((ga K Z).ca "InvalidOperation")) (.ref ((ga K Z).ca "UnlikeGrids")) = _; rw [ca_InvalidOperation, ca_UnlikeGrids]; exact kit_kc T.qm_InvalidOperation_UnlikeGrids T.ks_UnlikeGrids T.ky_UnlikeGrids) (ec_InvalidOperation T) <| XTab.ok_cons (by rw [ca_InvalidOperation]; exact kit_kt T.qm_InvalidOperation_ValueError (by decide +kernel)) (ec_InvalidOperation T) <| XTab.ok_nil
def xtab_InvalidSize : XTab := [("InvalidSize", (false, "InvalidBits"), false), ("InvalidSize", (false, "InvalidBox"), false), ("InvalidSize", (false, "InvalidBoxes"), false), ("InvalidSize", (false, "InvalidBudget"), false), ("InvalidSize", (false, "InvalidCell"), false), ("InvalidSize", (false, "InvalidCommand"), false), ("InvalidSize", (false, "InvalidIndex"), false), ("InvalidSize", (false, "InvalidKey"), false), ("InvalidSize", (false, "InvalidLayout"), false), ("InvalidSize", (false, "InvalidLoad"), false), ("InvalidSize", (false, "InvalidNumber"), false), ("InvalidSize", (false, "InvalidOperation"), false), ("InvalidSize", (false, "InvalidSize"), true), ("InvalidSize", (false, "InvalidText"), false), ("InvalidSize", (false, "InvalidWord"), false), ("InvalidSize", (false, "LaceError"), true), ("InvalidSize", (false, "Nothing"), false), ("InvalidSize", (false, "OverBudget"), false), ("InvalidSize", (false, "TooMany"), false), ("InvalidSize", (false, "UnlikeGrids"), false), ("InvalidSize", (true, "ValueError"), true)]
theorem xq_InvalidSize {K : PySem.W.Frag} {mg : Str → Option Value} {Z : Ads} (T : Top K mg Z) : xtab_InvalidSize.Ok (ga K Z) :=
  XTab.ok_cons (by show PySem.W.kitOne K (.ref ((ga K Z).ca "InvalidSize")) (.ref ((ga K Z).ca "InvalidBits")) = _; rw [ca_InvalidSize, ca_InvalidBits]; exact kit_kc T.qm_InvalidSize_InvalidBits T.ks_InvalidBits T.ky_InvalidBits) (ec_InvalidSize T) <| XTab.ok_cons (by show PySem.W.kitOne K (.ref ((ga K Z).ca "InvalidSize")) (.ref ((ga K Z).ca "InvalidBox")) = _; rw [ca_InvalidSize, ca_InvalidBox]; exact kit_kc T.qm_InvalidSize_InvalidBox T.ks_InvalidBox T.ky_InvalidBox) (ec_InvalidSize T) <| XTab.ok_cons (by show PySem.W.kitOne K (.ref ((ga K Z).ca "InvalidSize")) (.ref ((ga K Z).ca "InvalidBoxes")) = _; rw [ca_InvalidSize, ca_InvalidBoxes]; exact kit_kc T.qm_InvalidSize_InvalidBoxes T.ks_InvalidBoxes T.ky_InvalidBoxes) (ec_InvalidSize T) <| XTab.ok_cons (by show PySem.W.kitOne K (.ref ((ga K Z).ca "InvalidSize")) (.ref ((ga K Z).ca "InvalidBudget")) = _; rw [ca_InvalidSize, ca_InvalidBudget]; exact kit_kc T.qm_InvalidSize_InvalidBudget T.ks_InvalidBudget T.ky_InvalidBudget) (ec_InvalidSize T) <| XTab.ok_cons (by show PySem.W.kitOne K (.ref ((ga K Z).ca "InvalidSize")) (.ref ((ga K Z).ca "InvalidCell")) = _; rw [ca_InvalidSize, ca_InvalidCell]; exact kit_kc T.qm_InvalidSize_InvalidCell T.ks_InvalidCell T.ky_InvalidCell) (ec_InvalidSize T) <| XTab.ok_cons (by show PySem.W.kitOne K (.ref ((ga K Z).ca "InvalidSize")) (.ref ((ga K Z).ca "InvalidCommand")) = _; rw [ca_InvalidSize, ca_InvalidCommand]; exact kit_kc T.qm_InvalidSize_InvalidCommand T.ks_InvalidCommand T.ky_InvalidCommand) (ec_InvalidSize T) <| XTab.ok_cons (by show PySem.W.kitOne K (.ref ((ga K Z).ca "InvalidSize")) (.ref ((ga K Z).ca "InvalidIndex")) = _; rw [ca_InvalidSize, ca_InvalidIndex]; exact kit_kc T.qm_InvalidSize_InvalidIndex T.ks_InvalidIndex T.ky_InvalidIndex) (ec_InvalidSize T) <| XTab.ok_cons (by show PySem.W.kitOne K (.ref ((ga K Z).ca "InvalidSize")) (.ref ((ga K Z).ca "InvalidKey")) = _; rw [ca_InvalidSize, ca_InvalidKey]; exact kit_kc T.qm_InvalidSize_InvalidKey T.ks_InvalidKey T.ky_InvalidKey) (ec_InvalidSize T) <| XTab.ok_cons (by show PySem.W.kitOne K (.ref ((ga K Z).ca "InvalidSize")) (.ref ((ga K Z).ca "InvalidLayout")) = _; rw [ca_InvalidSize, ca_InvalidLayout]; exact kit_kc T.qm_InvalidSize_InvalidLayout T.ks_InvalidLayout T.ky_InvalidLayout) (ec_InvalidSize T) <| XTab.ok_cons (by show PySem.W.kitOne K (.ref ((ga K Z).ca "InvalidSize")) (.ref ((ga K Z).ca "InvalidLoad")) = _; rw [ca_InvalidSize, ca_InvalidLoad]; exact kit_kc T.qm_InvalidSize_InvalidLoad T.ks_InvalidLoad T.ky_InvalidLoad) (ec_InvalidSize T) <| XTab.ok_cons (by show PySem.W.kitOne K (.ref ((ga K Z).ca "InvalidSize")) (.ref ((ga K Z).ca "InvalidNumber")) = _; rw [ca_InvalidSize, ca_InvalidNumber]; exact kit_kc T.qm_InvalidSize_InvalidNumber T.ks_InvalidNumber T.ky_InvalidNumber) (ec_InvalidSize T) <| XTab.ok_cons (by show PySem.W.kitOne K (.ref ((ga K Z).ca "InvalidSize")) (.ref ((ga K Z).ca "InvalidOperation")) = _; rw [ca_InvalidSize, ca_InvalidOperation]; exact kit_kc T.qm_InvalidSize_InvalidOperation T.ks_InvalidOperation T.ky_InvalidOperation) (ec_InvalidSize T) <| XTab.ok_cons (by show PySem.W.kitOne K (.ref ((ga K Z).ca "InvalidSize")) (.ref ((ga K Z).ca "InvalidSize")) = _; rw [ca_InvalidSize]; exact Lk.kitOne_self _ _) (ec_InvalidSize T) <| XTab.ok_cons (by show PySem.W.kitOne K (.ref ((ga K Z).ca "InvalidSize")) (.ref ((ga K Z).ca "InvalidText")) = _; rw [ca_InvalidSize, ca_InvalidText]; exact kit_kc T.qm_InvalidSize_InvalidText T.ks_InvalidText T.ky_InvalidText) (ec_InvalidSize T) <| XTab.ok_cons (by show PySem.W.kitOne K (.ref ((ga K Z).ca "InvalidSize")) (.ref ((ga K Z).ca "InvalidWord")) = _; rw [ca_InvalidSize, ca_InvalidWord]; exact kit_kc T.qm_InvalidSize_InvalidWord T.ks_InvalidWord T.ky_InvalidWord) (ec_InvalidSize T) <| XTab.ok_cons (by show PySem.W.kitOne K (.ref ((ga K Z).ca "InvalidSize")) (.ref ((ga K Z).ca "LaceError")) = _; rw [ca_InvalidSize, ca_LaceError]; exact kit_kc T.qm_InvalidSize_LaceError T.ks_LaceError T.ky_LaceError) (ec_InvalidSize T) <| XTab.ok_cons (by show PySem.W.kitOne K (.ref ((ga K Z).ca "InvalidSize")) (.ref ((ga K Z).ca "Nothing")) = _; rw [ca_InvalidSize, ca_Nothing]; exact kit_kc T.qm_InvalidSize_Nothing T.ks_Nothing T.ky_Nothing) (ec_InvalidSize T) <| XTab.ok_cons (by show PySem.W.kitOne K (.ref ((ga K Z).ca "InvalidSize")) (.ref ((ga K Z).ca "OverBudget")) = _; rw [ca_InvalidSize, ca_OverBudget]; exact kit_kc T.qm_InvalidSize_OverBudget T.ks_OverBudget T.ky_OverBudget) (ec_InvalidSize T) <| XTab.ok_cons (by show PySem.W.kitOne K (.ref ((ga K Z).ca "InvalidSize")) (.ref ((ga K Z).ca "TooMany")) = _; rw [ca_InvalidSize, ca_TooMany]; exact kit_kc T.qm_InvalidSize_TooMany T.ks_TooMany T.ky_TooMany) (ec_InvalidSize T) <| XTab.ok_cons (by show PySem.W.kitOne K (.ref ((ga K Z).ca "InvalidSize")) (.ref ((ga K Z).ca "UnlikeGrids")) = _; rw [ca_InvalidSize, ca_UnlikeGrids]; exact kit_kc T.qm_InvalidSize_UnlikeGrids T.ks_UnlikeGrids T.ky_UnlikeGrids) (ec_InvalidSize T) <| XTab.ok_cons (by rw [ca_InvalidSize]; exact kit_kt T.qm_InvalidSize_ValueError (by decide +kernel)) (ec_InvalidSize T) <| XTab.ok_nil
def xtab_InvalidText : XTab := [("InvalidText", (false, "InvalidBits"), false), ("InvalidText", (false, "InvalidBox"), false), ("InvalidText", (false, "InvalidBoxes"), false), ("InvalidText", (false, "InvalidBudget"), false), ("InvalidText", (false, "InvalidCell"), false), ("InvalidText", (false, "InvalidCommand"), false), ("InvalidText", (false, "InvalidIndex"), false), ("InvalidText", (false, "InvalidKey"), false), ("InvalidText", (false, "InvalidLayout"), false), ("InvalidText", (false, "InvalidLoad"), false), ("InvalidText", (false, "InvalidNumber"), false), ("InvalidText", (false, "InvalidOperation"), false), ("InvalidText", (false, "InvalidSize"), false), ("InvalidText", (false, "InvalidText"), true), ("InvalidText", (false, "InvalidWord"), false), ("InvalidText", (false, "LaceError"), true), ("InvalidText", (false, "Nothing"), false), ("InvalidText", (false, "OverBudget"), false), ("InvalidText", (false, "TooMany"), false), ("InvalidText", (false, "UnlikeGrids"), false), ("InvalidText", (true, "ValueError"), true)]
theorem xq_InvalidText {K : PySem.W.Frag} {mg : Str → Option Value} {Z : Ads} (T : Top K mg Z) : xtab_InvalidText.Ok (ga K Z) :=
  XTab.ok_cons (by show PySem.W.kitOne K (.ref ((ga K Z).ca "InvalidText")) (.ref ((ga K Z).ca "InvalidBits")) = _; rw [ca_InvalidText, ca_InvalidBits]; exact kit_kc T.qm_InvalidText_InvalidBits T.ks_InvalidBits T.ky_InvalidBits) (ec_InvalidText T) <| XTab.ok_cons (by show PySem.W.kitOne K (.ref ((ga K Z).ca "InvalidText")) (.ref ((ga K Z).ca "InvalidBox")) = _; rw [ca_InvalidText, ca_InvalidBox]; exact kit_kc T.qm_InvalidText_InvalidBox T.ks_InvalidBox T.ky_InvalidBox) (ec_InvalidText T) <| XTab.ok_cons (by show PySem.W.kitOne K (.ref ((ga K Z).ca "InvalidText")) (.ref ((ga K Z).ca "InvalidBoxes")) = _; rw [ca_InvalidText, ca_InvalidBoxes]; exact kit_kc T.qm_InvalidText_InvalidBoxes T.ks_InvalidBoxes T.ky_InvalidBoxes) (ec_InvalidText T) <| XTab.ok_cons (by show PySem.W.kitOne K (.ref ((ga K Z).ca "InvalidText")) (.ref ((ga K Z).ca "InvalidBudget")) = _; rw [ca_InvalidText, ca_InvalidBudget]; exact kit_kc T.qm_InvalidText_InvalidBudget T.ks_InvalidBudget T.ky_InvalidBudget) (ec_InvalidText T) <| XTab.ok_cons (by show PySem.W.kitOne K (.ref ((ga K Z).ca "InvalidText")) (.ref ((ga K Z).ca "InvalidCell")) = _; rw [ca_InvalidText, ca_InvalidCell]; exact kit_kc T.qm_InvalidText_InvalidCell T.ks_InvalidCell T.ky_InvalidCell) (ec_InvalidText T) <| XTab.ok_cons (by show PySem.W.kitOne K (.ref ((ga K Z).ca "InvalidText")) (.ref ((ga K Z).ca "InvalidCommand")) = _; rw [ca_InvalidText, ca_InvalidCommand]; exact kit_kc T.qm_InvalidText_InvalidCommand T.ks_InvalidCommand T.ky_InvalidCommand) (ec_InvalidText T) <| XTab.ok_cons (by show PySem.W.kitOne K (.ref ((ga K Z).ca "InvalidText")) (.ref ((ga K Z).ca "InvalidIndex")) = _; rw [ca_InvalidText, ca_InvalidIndex]; exact kit_kc T.qm_InvalidText_InvalidIndex T.ks_InvalidIndex T.ky_InvalidIndex) (ec_InvalidText T) <| XTab.ok_cons (by show PySem.W.kitOne K (.ref ((ga K Z).ca "InvalidText")) (.ref ((ga K Z).ca "InvalidKey")) = _; rw [ca_InvalidText, ca_InvalidKey]; exact kit_kc T.qm_InvalidText_InvalidKey T.ks_InvalidKey T.ky_InvalidKey) (ec_InvalidText T) <| XTab.ok_cons (by show PySem.W.kitOne K (.ref ((ga K Z).ca "InvalidText")) (.ref ((ga K Z).ca "InvalidLayout")) = _; rw [ca_InvalidText, ca_InvalidLayout]; exact kit_kc T.qm_InvalidText_InvalidLayout T.ks_InvalidLayout T.ky_InvalidLayout) (ec_InvalidText T) <| XTab.ok_cons (by show PySem.W.kitOne K (.ref ((ga K Z).ca "InvalidText")) (.ref ((ga K Z).ca "InvalidLoad")) = _; rw [ca_InvalidText, ca_InvalidLoad]; exact kit_kc T.qm_InvalidText_InvalidLoad T.ks_InvalidLoad T.ky_InvalidLoad) (ec_InvalidText T) <| XTab.ok_cons (by show PySem.W.kitOne K (.ref ((ga K Z).ca "InvalidText")) (.ref ((ga K Z).ca "InvalidNumber")) = _; rw [ca_InvalidText, ca_InvalidNumber]; exact kit_kc T.qm_InvalidText_InvalidNumber T.ks_InvalidNumber T.ky_InvalidNumber) (ec_InvalidText T) <| XTab.ok_cons (by show PySem.W.kitOne K (.ref ((ga K Z).ca "InvalidText")) (.ref ((ga K Z).ca "InvalidOperation")) = _; rw [ca_InvalidText, ca_InvalidOperation]; exact kit_kc T.qm_InvalidText_InvalidOperation T.ks_InvalidOperation T.ky_InvalidOperation) (ec_InvalidText T) <| XTab.ok_cons (by show PySem.W.kitOne K (.ref ((ga K Z).ca "InvalidText")) (.ref ((ga K Z).ca "InvalidSize")) = _; rw [ca_InvalidText, ca_InvalidSize]; exact kit_kc T.qm_InvalidText_InvalidSize T.ks_InvalidSize T.ky_InvalidSize) (ec_InvalidText T) <| XTab.ok_cons (by show PySem.W.kitOne K (.ref ((ga K Z).ca "InvalidText")) (.ref ((ga K Z).ca "InvalidText")) = _; rw [ca_InvalidText]; exact Lk.kitOne_self _ _) (ec_InvalidText T) <| XTab.ok_cons (by show PySem.W.kitOne K (.ref ((ga K Z).ca "InvalidText")) (.ref ((ga K Z).ca "InvalidWord")) = _; rw [ca_InvalidText, ca_InvalidWord]; exact kit_kc T.qm_InvalidText_InvalidWord T.ks_InvalidWord T.ky_InvalidWord) (ec_InvalidText T) <| XTab.ok_cons (by show PySem.W.kitOne K (.ref ((ga K Z).ca "InvalidText")) (.ref ((ga K Z).ca "LaceError")) = _; rw [ca_InvalidText, ca_LaceError]; exact kit_kc T.qm_InvalidText_LaceError T.ks_LaceError T.ky_LaceError) (ec_InvalidText T) <| XTab.ok_cons (by show PySem.W.kitOne K (.ref ((ga K Z).ca "InvalidText")) (.ref ((ga K Z).ca "Nothing")) = _; rw [ca_InvalidText, ca_Nothing]; exact kit_kc T.qm_InvalidText_Nothing T.ks_Nothing T.ky_Nothing) (ec_InvalidText T) <| XTab.ok_cons (by show PySem.W.kitOne K (.ref ((ga K Z).ca "InvalidText")) (.ref ((ga K Z).ca "OverBudget")) = _; rw [ca_InvalidText, ca_OverBudget]; exact kit_kc T.qm_InvalidText_OverBudget T.ks_OverBudget T.ky_OverBudget) (ec_InvalidText T) <| XTab.ok_cons (by show PySem.W.kitOne K (.ref ((ga K Z).ca "InvalidText")) (.ref ((ga K Z).ca "TooMany")) = _; rw [ca_InvalidText, ca_TooMany]; exact kit_kc T.qm_InvalidText_TooMany T.ks_TooMany T.ky_TooMany) (ec_InvalidText T) <| XTab.ok_cons (by show PySem.W.kitOne K (.ref ((ga K Z).ca "InvalidText")) (.ref ((ga K Z).ca "UnlikeGrids")) = _; rw [ca_InvalidText, ca_UnlikeGrids]; exact kit_kc T.qm_InvalidText_UnlikeGrids T.ks_UnlikeGrids T.ky_UnlikeGrids) (ec_InvalidText T) <| XTab.ok_cons (by rw [ca_InvalidText]; exact kit_kt T.qm_InvalidText_ValueError (by decide +kernel)) (ec_InvalidText T) <| XTab.ok_nil
def xtab_InvalidWord : XTab := [("InvalidWord", (false, "InvalidBits"), false), ("InvalidWord", (false, "InvalidBox"), false), ("InvalidWord", (false, "InvalidBoxes"), false), ("InvalidWord", (false, "InvalidBudget"), false), ("InvalidWord", (false, "InvalidCell"), false), ("InvalidWord", (false, "InvalidCommand"), false), ("InvalidWord", (false, "InvalidIndex"), false), ("InvalidWord", (false, "InvalidKey"), false), ("InvalidWord", (false, "InvalidLayout"), false), ("InvalidWord", (false, "InvalidLoad"), false), ("InvalidWord", (false, "InvalidNumber"), false), ("InvalidWord", (false, "InvalidOperation"), false), ("InvalidWord", (false, "InvalidSize"), false), ("InvalidWord", (false, "InvalidText"), false), ("InvalidWord", (false, "InvalidWord"), true), ("InvalidWord", (false, "LaceError"), true), ("InvalidWord", (false, "Nothing"), false), ("InvalidWord", (false, "OverBudget"), false), ("InvalidWord", (false, "TooMany"), false), ("InvalidWord", (false, "UnlikeGrids"), false), ("InvalidWord", (true, "ValueError"), true)]
theorem xq_InvalidWord {K : PySem.W.Frag} {mg : Str → Option Value} {Z : Ads} (T : Top K mg Z) : xtab_InvalidWord.Ok (ga K Z) :=
  XTab.ok_cons (by show PySem.W.kitOne K (.ref ((ga K Z).ca "InvalidWord")) (.ref ((ga K Z).ca "InvalidBits")) = _; rw [ca_InvalidWord, ca_InvalidBits]; exact kit_kc T.qm_InvalidWord_InvalidBits T.ks_InvalidBits T.ky_InvalidBits) (ec_InvalidWord T) <| XTab.ok_cons (by show PySem.W.kitOne K (.ref ((ga K Z).ca "InvalidWord")) (.ref ((ga K Z).ca "InvalidBox")) = _; rw [ca_InvalidWord, ca_InvalidBox]; exact kit_kc T.qm_InvalidWord_InvalidBox T.ks_InvalidBox T.ky_InvalidBox) (ec_InvalidWord T) <| XTab.ok_cons (by show PySem.W.kitOne K (.ref ((ga K Z).ca "InvalidWord")) (.ref ((ga K Z).ca "InvalidBoxes")) = _; rw [ca_InvalidWord, ca_InvalidBoxes]; exact kit_kc T.qm_InvalidWord_InvalidBoxes T.ks_InvalidBoxes T.ky_InvalidBoxes) (ec_InvalidWord T) <| XTab.ok_cons (by show PySem.W.kitOne K (.ref ((ga K Z).ca "InvalidWord")) (.ref ((ga K Z).ca "InvalidBudget")) = _; rw [ca_InvalidWord, ca_InvalidBudget]; exact kit_kc T.qm_InvalidWord_InvalidBudget T.ks_InvalidBudget T.ky_InvalidBudget) (ec_InvalidWord T) <| XTab.ok_cons (by show PySem.W.kitOne K (.ref ((ga K Z).ca "InvalidWord")) (.ref ((ga K Z).ca "InvalidCell")) = _; rw [ca_InvalidWord, ca_InvalidCell]; exact kit_kc T.qm_InvalidWord_InvalidCell T.ks_InvalidCell T.ky_InvalidCell) (ec_InvalidWord T) <| XTab.ok_cons (by show PySem.W.kitOne K (.ref ((ga K Z).ca "InvalidWord")) (.ref ((ga K Z).ca "InvalidCommand")) = _; rw [ca_InvalidWord, ca_InvalidCommand]; exact kit_kc T.qm_InvalidWord_InvalidCommand T.ks_InvalidCommand T.ky_InvalidCommand) (ec_InvalidWord T) <| XTab.ok_cons (by show PySem.W.kitOne K (.ref ((ga K Z).ca "InvalidWord")) (.ref ((ga K Z).ca "InvalidIndex")) = _; rw [ca_InvalidWord, ca_InvalidIndex]; exact kit_kc T.qm_InvalidWord_InvalidIndex T.ks_InvalidIndex T.ky_InvalidIndex) (ec_InvalidWord T) <| XTab.ok_cons (by show PySem.W.kitOne K (.ref ((ga K Z).ca "InvalidWord")) (.ref ((ga K Z).ca "InvalidKey")) = _; rw [ca_InvalidWord, ca_InvalidKey]; exact kit_kc T.qm_InvalidWord_InvalidKey T.ks_InvalidKey T.ky_InvalidKey) (ec_InvalidWord T) <| XTab.ok_cons (by show PySem.W.kitOne K (.ref ((ga K Z).ca "InvalidWord")) (.ref ((ga K Z).ca "InvalidLayout")) = _; rw [ca_InvalidWord, ca_InvalidLayout]; exact kit_kc T.qm_InvalidWord_InvalidLayout T.ks_InvalidLayout T.ky_InvalidLayout) (ec_InvalidWord T) <| XTab.ok_cons (by show PySem.W.kitOne K (.ref ((ga K Z).ca "InvalidWord")) (.ref ((ga K Z).ca "InvalidLoad")) = _; rw [ca_InvalidWord, ca_InvalidLoad]; exact kit_kc T.qm_InvalidWord_InvalidLoad T.ks_InvalidLoad T.ky_InvalidLoad) (ec_InvalidWord T) <| XTab.ok_cons (by show PySem.W.kitOne K (.ref ((ga K Z).ca "InvalidWord")) (.ref ((ga K Z).ca "InvalidNumber")) = _; rw [ca_InvalidWord, ca_InvalidNumber]; exact kit_kc T.qm_InvalidWord_InvalidNumber T.ks_InvalidNumber T.ky_InvalidNumber) (ec_InvalidWord T) <| XTab.ok_cons (by show PySem.W.kitOne K (.ref ((ga K Z).ca "InvalidWord")) (.ref ((ga K Z).ca "InvalidOperation")) = _; rw [ca_InvalidWord, ca_InvalidOperation]; exact kit_kc T.qm_InvalidWord_InvalidOperation T.ks_InvalidOperation T.ky_InvalidOperation) (ec_InvalidWord T) <| XTab.ok_cons (by show PySem.W.kitOne K (.ref ((ga K Z).ca "InvalidWord")) (.ref ((ga K Z).ca "InvalidSize")) = _; rw [ca_InvalidWord, ca_InvalidSize]; exact kit_kc T.qm_InvalidWord_InvalidSize T.ks_InvalidSize T.ky_InvalidSize) (ec_InvalidWord T) <| XTab.ok_cons (by show PySem.W.kitOne K (.ref ((ga K Z).ca "InvalidWord")) (.ref ((ga K Z).ca "InvalidText")) = _; rw [ca_InvalidWord, ca_InvalidText]; exact kit_kc T.qm_InvalidWord_InvalidText T.ks_InvalidText T.ky_InvalidText) (ec_InvalidWord T) <| XTab.ok_cons (by show PySem.W.kitOne K (.ref ((ga K Z).ca "InvalidWord")) (.ref ((ga K Z).ca "InvalidWord")) = _; rw [ca_InvalidWord]; exact Lk.kitOne_self _ _) (ec_InvalidWord T) <| XTab.ok_cons (by show PySem.W.kitOne K (.ref ((ga K Z).ca "InvalidWord")) (.ref ((ga K Z).ca "LaceError")) = _; rw [ca_InvalidWord, ca_LaceError]; exact kit_kc T.qm_InvalidWord_LaceError T.ks_LaceError T.ky_LaceError) (ec_InvalidWord T) <| XTab.ok_cons (by show PySem.W.kitOne K (.ref ((ga K Z).ca "InvalidWord")) (.ref ((ga K Z).ca "Nothing")) = _; rw [ca_InvalidWord, ca_Nothing]; exact kit_kc T.qm_InvalidWord_Nothing T.ks_Nothing T.ky_Nothing) (ec_InvalidWord T) <| XTab.ok_cons (by show PySem.W.kitOne K (.ref ((ga K Z).ca "InvalidWord")) (.ref ((ga K Z).ca "OverBudget")) = _; rw [ca_InvalidWord, ca_OverBudget]; exact kit_kc T.qm_InvalidWord_OverBudget T.ks_OverBudget T.ky_OverBudget) (ec_InvalidWord T) <| XTab.ok_cons (by show PySem.W.kitOne K (.ref ((ga K Z).ca "InvalidWord")) (.ref ((ga K Z).ca "TooMany")) = _; rw [ca_InvalidWord, ca_TooMany]; exact kit_kc T.qm_InvalidWord_TooMany T.ks_TooMany T.ky_TooMany) (ec_InvalidWord T) <| XTab.ok_cons (by show PySem.W.kitOne K (.ref ((ga K Z).ca "InvalidWord")) (.ref ((ga K Z).ca "UnlikeGrids")) = _; rw [ca_InvalidWord, ca_UnlikeGrids]; exact kit_kc T.qm_InvalidWord_UnlikeGrids T.ks_UnlikeGrids T.ky_UnlikeGrids) (ec_InvalidWord T) <| XTab.ok_cons (by rw [ca_InvalidWord]; exact kit_kt T.qm_InvalidWord_ValueError (by decide +kernel)) (ec_InvalidWord T) <| XTab.ok_nil
def xtab_LaceError : XTab := [("LaceError", (false, "InvalidBits"), false), ("LaceError", (false, "InvalidBox"), false), ("LaceError", (false, "InvalidBoxes"), false), ("LaceError", (false, "InvalidBudget"), false), ("LaceError", (false, "InvalidCell"), false), ("LaceError", (false, "InvalidCommand"), false), ("LaceError", (false, "InvalidIndex"), false), ("LaceError", (false, "InvalidKey"), false), ("LaceError", (false, "InvalidLayout"), false), ("LaceError", (false, "InvalidLoad"), false), ("LaceError", (false, "InvalidNumber"), false), ("LaceError", (false, "InvalidOperation"), false), ("LaceError", (false, "InvalidSize"), false), ("LaceError", (false, "InvalidText"), false), ("LaceError", (false, "InvalidWord"), false), ("LaceError", (false, "LaceError"), true), ("LaceError", (false, "Nothing"), false), ("LaceError", (false, "OverBudget"), false), ("LaceError", (false, "TooMany"), false), ("LaceError", (false, "UnlikeGrids"), false), ("LaceError", (true, "ValueError"), true)]
theorem xq_LaceError {K : PySem.W.Frag} {mg : Str → Option Value} {Z : Ads} (T : Top K mg Z) : xtab_LaceError.Ok (ga K Z) :=
  XTab.ok_cons (by show PySem.W.kitOne K (.ref ((ga K Z).ca "LaceError")) (.ref ((ga K Z).ca "InvalidBits")) = _; rw [ca_LaceError, ca_InvalidBits]; exact kit_kc T.qm_LaceError_InvalidBits T.ks_InvalidBits T.ky_InvalidBits) (ec_LaceError T) <| XTab.ok_cons (by show PySem.W.kitOne K (.ref ((ga K Z).ca "LaceError")) (.ref ((ga K Z).ca "InvalidBox")) = _; rw [ca_LaceError, ca_InvalidBox]; exact kit_kc T.qm_LaceError_InvalidBox T.ks_InvalidBox T.ky_InvalidBox) (ec_LaceError T) <| XTab.ok_cons (by show PySem.W.kitOne K (.ref ((ga K Z).ca "LaceError")) (.ref ((ga K Z).ca "InvalidBoxes")) = _; rw [ca_LaceError, ca_InvalidBoxes]; exact kit_kc T.qm_LaceError_InvalidBoxes T.ks_InvalidBoxes T.ky_InvalidBoxes) (ec_LaceError T) <| XTab.ok_cons (by show PySem.W.kitOne K (.ref ((ga K Z).ca "LaceError")) (.ref ((ga K Z).ca "InvalidBudget")) = _; rw [ca_LaceError, ca_InvalidBudget]; exact kit_kc T.qm_LaceError_InvalidBudget T.ks_InvalidBudget T.ky_InvalidBudget) (ec_LaceError T) <| XTab.ok_cons (by show PySem.W.kitOne K (.ref ((ga K Z).ca "LaceError")) (.ref ((ga K Z).ca "InvalidCell")) = _; rw [ca_LaceError, ca_InvalidCell]; exact kit_kc T.qm_LaceError_InvalidCell T.ks_InvalidCell T.ky_InvalidCell) (ec_LaceError T) <| XTab.ok_cons (by show PySem.W.kitOne K (.ref ((ga K Z).ca "LaceError")) (.ref ((ga K Z).ca "InvalidCommand")) = _; rw [ca_LaceError, ca_InvalidCommand]; exact kit_kc T.qm_LaceError_InvalidCommand T.ks_InvalidCommand T.ky_InvalidCommand) (ec_LaceError T) <| XTab.ok_cons (by show PySem.W.kitOne K (.ref ((ga K Z).ca "LaceError")) (.ref ((ga K Z).ca "InvalidIndex")) = _; rw [ca_LaceError, ca_InvalidIndex]; exact kit_kc T.qm_LaceError_InvalidIndex T.ks_InvalidIndex T.ky_InvalidIndex) (ec_LaceError T) <| XTab.ok_cons (by show PySem.W.kitOne K (.ref ((ga K Z).ca "LaceError")) (.ref ((ga K Z).ca "InvalidKey")) = _; rw [ca_LaceError, ca_InvalidKey]; exact kit_kc T.qm_LaceError_InvalidKey T.ks_InvalidKey T.ky_InvalidKey) (ec_LaceError T) <| XTab.ok_cons (by show PySem.W.kitOne K (.ref ((ga K Z).ca "LaceError")) (.ref ((ga K Z).ca "InvalidLayout")) = _; rw [ca_LaceError, ca_InvalidLayout]; exact kit_kc T.qm_LaceError_InvalidLayout T.ks_InvalidLayout T.ky_InvalidLayout) (ec_LaceError T) <| XTab.ok_cons (by show PySem.W.kitOne K (.ref ((ga K Z).ca "LaceError")) (.ref ((ga K Z).ca "InvalidLoad")) = _; rw [ca_LaceError, ca_InvalidLoad]; exact kit_kc T.qm_LaceError_InvalidLoad T.ks_InvalidLoad T.ky_InvalidLoad) (ec_LaceError T) <| XTab.ok_cons (by show PySem.W.kitOne K (.ref ((ga K Z).ca "LaceError")) (.ref ((ga K Z).ca "InvalidNumber")) = _; rw [ca_LaceError, ca_InvalidNumber]; exact kit_kc T.qm_LaceError_InvalidNumber T.ks_InvalidNumber T.ky_InvalidNumber) (ec_LaceError T) <| XTab.ok_cons (by show PySem.W.kitOne K (.ref ((ga K Z).ca "LaceError")) (.ref ((ga K Z).ca "InvalidOperation")) = _; rw [ca_LaceError, ca_InvalidOperation]; exact kit_kc T.qm_LaceError_InvalidOperation T.ks_InvalidOperation T.ky_InvalidOperation) (ec_LaceError T) <| XTab.ok_cons (by show PySem.W.kitOne K (.ref ((ga K Z).ca "LaceError")) (.ref ((ga K Z).ca "InvalidSize")) = _; rw [ca_LaceError, ca_InvalidSize]; exact kit_kc T.qm_LaceError_InvalidSize T.ks_InvalidSize T.ky_InvalidSize) (ec_LaceError T) <| XTab.ok_cons (by show PySem.W.kitOne K (.ref ((ga K Z).ca "LaceError")) (.ref ((ga K Z).ca "InvalidText")) = _; rw [ca_LaceError, ca_InvalidText]; exact kit_kc T.qm_LaceError_InvalidText T.ks_InvalidText T.ky_InvalidText) (ec_LaceError T) <| XTab.ok_cons (by show PySem.W.kitOne K (.ref ((ga K Z).ca "LaceError")) (.ref ((ga K Z).ca "InvalidWord")) = _; rw [ca_LaceError, ca_InvalidWord]; exact kit_kc T.qm_LaceError_InvalidWord T.ks_InvalidWord T.ky_InvalidWord) (ec_LaceError T) <| XTab.ok_cons (by show PySem.W.kitOne K (.ref ((ga K Z).ca "LaceError")) (.ref ((ga K Z).ca "LaceError")) = _; rw [ca_LaceError]; exact Lk.kitOne_self _ _) (ec_LaceError T) <| XTab.ok_cons (by show PySem.W.kitOne K (.ref ((ga K Z).ca "LaceError")) (.ref ((ga K Z).ca "Nothing")) = _; rw [ca_LaceError, ca_Nothing]; exact kit_kc T.qm_LaceError_Nothing T.ks_Nothing T.ky_Nothing) (ec_LaceError T) <| XTab.ok_cons (by show PySem.W.kitOne K (.ref ((ga K Z).ca "LaceError")) (.ref ((ga K Z).ca "OverBudget")) = _; rw [ca_LaceError, ca_OverBudget]; exact kit_kc T.qm_LaceError_OverBudget T.ks_OverBudget T.ky_OverBudget) (ec_LaceError T) <| XTab.ok_cons (by show PySem.W.kitOne K (.ref ((ga K Z).ca "LaceError")) (.ref ((ga K Z).ca "TooMany")) = _; rw [ca_LaceError, ca_TooMany]; exact kit_kc T.qm_LaceError_TooMany T.ks_TooMany T.ky_TooMany) (ec_LaceError T) <| XTab.ok_cons (by show PySem.W.kitOne K (.ref ((ga K Z).ca "LaceError")) (.ref ((ga K Z).ca "UnlikeGrids")) = _; rw [ca_LaceError, ca_UnlikeGrids]; exact kit_kc T.qm_LaceError_UnlikeGrids T.ks_UnlikeGrids T.ky_UnlikeGrids) (ec_LaceError T) <| XTab.ok_cons (by rw [ca_LaceError]; exact kit_kt T.qm_LaceError_ValueError (by decide +kernel)) (ec_LaceError T) <| XTab.ok_nil
def xtab_Nothing : XTab := [("Nothing", (false, "InvalidBits"), false), ("Nothing", (false, "InvalidBox"), false), ("Nothing", (false, "InvalidBoxes"), false), ("Nothing", (false, "InvalidBudget"), false), ("Nothing", (false, "InvalidCell"), false), ("Nothing", (false, "InvalidCommand"), false), ("Nothing", (false, "InvalidIndex"), false), ("Nothing", (false, "InvalidKey"), false), ("Nothing", (false, "InvalidLayout"), false), ("Nothing", (false, "InvalidLoad"), false), ("Nothing", (false, "InvalidNumber"), false), ("Nothing", (false, "InvalidOperation"), false), ("Nothing", (false, "InvalidSize"), false), ("Nothing", (false, "InvalidText"), false), ("Nothing", (false, "InvalidWord"), false), ("Nothing", (false, "LaceError"), true), ("Nothing", (false, "Nothing"), true), ("Nothing", (false, "OverBudget"), false), ("Nothing", (false, "TooMany"), false), ("Nothing", (false, "UnlikeGrids"), false), ("Nothing", (true, "ValueError"), true)]
theorem xq_Nothing {K : PySem.W.Frag} {mg : Str → Option Value} {Z : Ads} (T : Top K mg Z) : xtab_Nothing.Ok (ga K Z) :=
  XTab.ok_cons (by show PySem.W.kitOne K (.ref ((ga K Z).ca "Nothing")) (.ref ((ga K Z).ca "InvalidBits")) = _; rw [ca_Nothing, ca_InvalidBits]; exact kit_kc T.qm_Nothing_InvalidBits T.ks_InvalidBits T.ky_InvalidBits) (ec_Nothing T) <| XTab.ok_cons (by show PySem.W.kitOne K (.ref ((ga K Z).ca "Nothing")) (.ref ((ga K Z).ca "InvalidBox")) = _; rw [ca_Nothing, ca_InvalidBox]; exact kit_kc T.qm_Nothing_InvalidBox T.ks_InvalidBox T.ky_InvalidBox) (ec_Nothing T) <| XTab.ok_cons (by show PySem.W.kitOne K (.ref ((ga K Z).ca "Nothing")) (.ref ((ga K Z).ca "InvalidBoxes")) = _; rw [ca_Nothing, ca_InvalidBoxes]; exact kit_kc T.qm_Nothing_InvalidBoxes T.ks_InvalidBoxes T.ky_InvalidBoxes) (ec_Nothing T) <| XTab.ok_cons (by show PySem.W.kitOne K (.ref ((ga K Z).ca "Nothing")) (.ref ((ga K Z).ca "InvalidBudget")) = _; rw [ca_Nothing, ca_InvalidBudget]; exact kit_kc T.qm_Nothing_InvalidBudget T.ks_InvalidBudget T.ky_InvalidBudget) (ec_Nothing T) <| XTab.ok_cons (by show PySem.W.kitOne K (.ref ((ga K Z).ca "Nothing")) (.ref ((ga K Z).ca "InvalidCell")) = _; rw [ca_Nothing, ca_InvalidCell]; exact kit_kc T.qm_Nothing_InvalidCell T.ks_InvalidCell T.ky_InvalidCell) (ec_Nothing T) <| XTab.ok_cons (by show PySem.W.kitOne K (.ref ((ga K Z).ca "Nothing")) (.ref ((ga K Z).ca "InvalidCommand")) = _; rw [ca_Nothing, ca_InvalidCommand]; exact kit_kc T.qm_Nothing_InvalidCommand T.ks_InvalidCommand T.ky_InvalidCommand) (ec_Nothing T) <| XTab.ok_cons (by show PySem.W.kitOne K (.ref ((ga K Z).ca "Nothing")) (.ref ((ga K Z).ca "InvalidIndex")) = _; rw [ca_Nothing, ca_InvalidIndex]; exact kit_kc T.qm_Nothing_InvalidIndex T.ks_InvalidIndex T.ky_InvalidIndex) (ec_Nothing T) <| XTab.ok_cons (by show PySem.W.kitOne K (.ref ((ga K Z).ca "Nothing")) (.ref ((ga K Z).ca "InvalidKey")) = _; rw [ca_Nothing, ca_InvalidKey]; exact kit_kc T.qm_Nothing_InvalidKey T.ks_InvalidKey T.ky_InvalidKey) (ec_Nothing T) <| XTab.ok_cons (by show PySem.W.kitOne K (.ref ((ga K Z).ca "Nothing")) (.ref ((ga K Z).ca "InvalidLayout")) = _; rw [ca_Nothing, ca_InvalidLayout]; exact kit_kc T.qm_Nothing_InvalidLayout T.ks_InvalidLayout T.ky_InvalidLayout) (ec_Nothing T) <| XTab.ok_cons (by show PySem.W.kitOne K (.ref ((ga K Z).ca "Nothing")) (.ref ((ga K Z).ca "InvalidLoad")) = _; rw [ca_Nothing, ca_InvalidLoad]; exact kit_kc T.qm_Nothing_InvalidLoad T.ks_InvalidLoad T.ky_InvalidLoad) (ec_Nothing T) <| XTab.ok_cons (by show PySem.W.kitOne K (.ref ((ga K Z).ca "Nothing")) (.ref ((ga K Z).ca "InvalidNumber")) = _; rw [ca_Nothing, ca_InvalidNumber]; exact kit_kc T.qm_Nothing_InvalidNumber T.ks_InvalidNumber T.ky_InvalidNumber) (ec_Nothing T) <| XTab.ok_cons (by show PySem.W.kitOne K (.ref ((ga K Z).ca "Nothing")) (.ref ((ga K Z).ca "InvalidOperation")) = _; rw [ca_Nothing, ca_InvalidOperation]; exact kit_kc T.qm_Nothing_InvalidOperation T.ks_InvalidOperation T.ky_InvalidOperation) (ec_Nothing T) <| XTab.ok_cons (by show PySem.W.kitOne K (.ref ((ga K Z).ca "Nothing")) (.ref ((ga K Z).ca "InvalidSize")) = _; rw [ca_Nothing, ca_InvalidSize]; exact kit_kc T.qm_Nothing_InvalidSize T.ks_InvalidSize T.ky_InvalidSize) (ec_Nothing T) <| XTab.ok_cons (by show PySem.W.kitOne K (.ref ((ga K Z).ca "Nothing")) (.ref ((ga K Z).ca "InvalidText")) = _; rw [ca_Nothing, ca_InvalidText]; exact kit_kc T.qm_Nothing_InvalidText T.ks_InvalidText T.ky_InvalidText) (ec_Nothing T) <| XTab.ok_cons (by show PySem.W.kitOne K (.ref ((ga K Z).ca "Nothing")) (.ref ((ga K Z).ca "InvalidWord")) = _; rw [ca_Nothing, ca_InvalidWord]; exact kit_kc T.qm_Nothing_InvalidWord T.ks_InvalidWord T.ky_InvalidWord) (ec_Nothing T) <| XTab.ok_cons (by show PySem.W.kitOne K (.ref ((ga K Z).ca "Nothing")) (.ref ((ga K Z).ca "LaceError")) = _; rw [ca_Nothing, ca_LaceError]; exact kit_kc T.qm_Nothing_LaceError T.ks_LaceError T.ky_LaceError) (ec_Nothing T) <| XTab.ok_cons (by show PySem.W.kitOne K (.ref ((ga K Z).ca "Nothing")) (.ref ((ga K Z).ca "Nothing")) = _; rw [ca_Nothing]; exact Lk.kitOne_self _ _) (ec_Nothing T) <| XTab.ok_cons (by show PySem.W.kitOne K (.ref ((ga K Z).ca "Nothing")) (.ref ((ga K Z).ca "OverBudget")) = _; rw [ca_Nothing, ca_OverBudget]; exact kit_kc T.qm_Nothing_OverBudget T.ks_OverBudget T.ky_OverBudget) (ec_Nothing T) <| XTab.ok_cons (by show PySem.W.kitOne K (.ref ((ga K Z).ca "Nothing")) (.ref ((ga K Z).ca "TooMany")) = _; rw [ca_Nothing, ca_TooMany]; exact kit_kc T.qm_Nothing_TooMany T.ks_TooMany T.ky_TooMany) (ec_Nothing T) <| XTab.ok_cons (by show PySem.W.kitOne K (.ref ((ga K Z).ca "Nothing")) (.ref ((ga K Z).ca "UnlikeGrids")) = _; rw [ca_Nothing, ca_UnlikeGrids]; exact kit_kc T.qm_Nothing_UnlikeGrids T.ks_UnlikeGrids T.ky_UnlikeGrids) (ec_Nothing T) <| XTab.ok_cons (by rw [ca_Nothing]; exact kit_kt T.qm_Nothing_ValueError (by decide +kernel)) (ec_Nothing T) <| XTab.ok_nil
def xtab_OverBudget : XTab := [("OverBudget", (false, "InvalidBits"), false), ("OverBudget", (false, "InvalidBox"), false), ("OverBudget", (false, "InvalidBoxes"), false), ("OverBudget", (false, "InvalidBudget"), false), ("OverBudget", (false, "InvalidCell"), false), ("OverBudget", (false, "InvalidCommand"), false), ("OverBudget", (false, "InvalidIndex"), false), ("OverBudget", (false, "InvalidKey"), false), ("OverBudget", (false, "InvalidLayout"), false), ("OverBudget", (false, "InvalidLoad"), false), ("OverBudget", (false, "InvalidNumber"), false), ("OverBudget", (false, "InvalidOperation"), false), ("OverBudget", (false, "InvalidSize"), false), ("OverBudget", (false, "InvalidText"), false), ("OverBudget", (false, "InvalidWord"), false), ("OverBudget", (false, "LaceError"), true), ("OverBudget", (false, "Nothing"), false), ("OverBudget", (false, "OverBudget"), true), ("OverBudget", (false, "TooMany"), false), ("OverBudget", (false, "UnlikeGrids"), false), ("OverBudget", (true, "ValueError"), true)]
theorem xq_OverBudget {K : PySem.W.Frag} {mg : Str → Option Value} {Z : Ads} (T : Top K mg Z) : xtab_OverBudget.Ok (ga K Z) :=
  XTab.ok_cons (by show PySem.W.kitOne K (.ref ((ga K Z).ca "OverBudget")) (.ref ((ga K Z).ca "InvalidBits")) = _; rw [ca_OverBudget, ca_InvalidBits]; exact kit_kc T.qm_OverBudget_InvalidBits T.ks_InvalidBits T.ky_InvalidBits) (ec_OverBudget T) <| XTab.ok_cons (by show PySem.W.kitOne K (.ref ((ga K Z).ca "OverBudget")) (.ref ((ga K Z).ca "InvalidBox")) = _; rw [ca_OverBudget, ca_InvalidBox]; exact kit_kc T.qm_OverBudget_InvalidBox T.ks_InvalidBox T.ky_InvalidBox) (ec_OverBudget T) <| XTab.ok_cons (by show PySem.W.kitOne K (.ref ((ga K Z).ca "OverBudget")) (.ref ((ga K Z).ca "InvalidBoxes")) = _; rw [ca_OverBudget, ca_InvalidBoxes]; exact kit_kc T.qm_OverBudget_InvalidBoxes T.ks_InvalidBoxes T.ky_InvalidBoxes) (ec_OverBudget T) <| XTab.ok_cons (by show PySem.W.kitOne K (.ref ((ga K Z).ca "OverBudget")) (.ref ((ga K Z).ca "InvalidBudget")) = _; rw [ca_OverBudget, ca_InvalidBudget]; exact kit_kc T.qm_OverBudget_InvalidBudget T.ks_InvalidBudget T.ky_InvalidBudget) (ec_OverBudget T) <| XTab.ok_cons (by show PySem.W.kitOne K (.ref ((ga K Z).ca "OverBudget")) (.ref ((ga K Z).ca "InvalidCell")) = _; rw [ca_OverBudget, ca_InvalidCell]; exact kit_kc T.qm_OverBudget_InvalidCell T.ks_InvalidCell T.ky_InvalidCell) (ec_OverBudget T) <| XTab.ok_cons (by show PySem.W.kitOne K (.ref ((ga K Z).ca "OverBudget")) (.ref ((ga K Z).ca "InvalidCommand")) = _; rw [ca_OverBudget, ca_InvalidCommand]; exact kit_kc T.qm_OverBudget_InvalidCommand T.ks_InvalidCommand T.ky_InvalidCommand) (ec_OverBudget T) <| XTab.ok_cons (by show PySem.W.kitOne K (.ref ((ga K Z).ca "OverBudget")) (.ref ((ga K Z).ca "InvalidIndex")) = _; rw [ca_OverBudget, ca_InvalidIndex]; exact kit_kc T.qm_OverBudget_InvalidIndex T.ks_InvalidIndex T.ky_InvalidIndex) (ec_OverBudget T) <| XTab.ok_cons (by show PySem.W.kitOne K (.ref ((ga K Z).ca "OverBudget")) (.ref ((ga K Z).ca "InvalidKey")) = _; rw [ca_OverBudget, ca_InvalidKey]; exact kit_kc T.qm_OverBudget_InvalidKey T.ks_InvalidKey T.ky_InvalidKey) (ec_OverBudget T) <| XTab.ok_cons (by show PySem.W.kitOne K (.ref ((ga K Z).ca "OverBudget")) (.ref ((ga K Z).ca "InvalidLayout")) = _; rw [ca_OverBudget, ca_InvalidLayout]; exact kit_kc T.qm_OverBudget_InvalidLayout T.ks_InvalidLayout T.ky_InvalidLayout) (ec_OverBudget T) <| XTab.ok_cons (by show PySem.W.kitOne K (.ref ((ga K Z).ca "OverBudget")) (.ref ((ga K Z).ca "InvalidLoad")) = _; rw [ca_OverBudget, ca_InvalidLoad]; exact kit_kc T.qm_OverBudget_InvalidLoad T.ks_InvalidLoad T.ky_InvalidLoad) (ec_OverBudget T) <| XTab.ok_cons (by show PySem.W.kitOne K (.ref ((ga K Z).ca "OverBudget")) (.ref ((ga K Z).ca "InvalidNumber")) = _; rw [ca_OverBudget, ca_InvalidNumber]; exact kit_kc T.qm_OverBudget_InvalidNumber T.ks_InvalidNumber T.ky_InvalidNumber) (ec_OverBudget T) <| XTab.ok_cons (by show PySem.W.kitOne K (.ref ((ga K Z).ca "OverBudget")) (.ref ((ga K Z).ca "InvalidOperation")) = _; rw [ca_OverBudget, ca_InvalidOperation]; exact kit_kc T.qm_OverBudget_InvalidOperation T.ks_InvalidOperation T.ky_InvalidOperation) (ec_OverBudget T) <| XTab.ok_cons (by show PySem.W.kitOne K (.ref ((ga K Z).ca "OverBudget")) (.ref ((ga K Z).ca "InvalidSize")) = _; rw [ca_OverBudget, ca_InvalidSize]; exact kit_kc T.qm_OverBudget_InvalidSize T.ks_InvalidSize T.ky_InvalidSize) (ec_OverBudget T) <| XTab.ok_cons (by show PySem.W.kitOne K (.ref ((ga K Z).ca "OverBudget")) (.ref ((ga K Z).ca "InvalidText")) = _; rw [ca_OverBudget, ca_InvalidText]; exact kit_kc T.qm_OverBudget_InvalidText T.ks_InvalidText T.ky_InvalidText) (ec_OverBudget T) <| XTab.ok_cons (by show PySem.W.kitOne K (.ref ((ga K Z).ca "OverBudget")) (.ref ((ga K Z).ca "InvalidWord")) = _; rw [ca_OverBudget, ca_InvalidWord]; exact kit_kc T.qm_OverBudget_InvalidWord T.ks_InvalidWord T.ky_InvalidWord) (ec_OverBudget T) <| XTab.ok_cons (by show PySem.W.kitOne K (.ref ((ga K Z).ca "OverBudget")) (.ref ((ga K Z).ca "LaceError")) = _; rw [ca_OverBudget, ca_LaceError]; exact kit_kc T.qm_OverBudget_LaceError T.ks_LaceError T.ky_LaceError) (ec_OverBudget T) <| XTab.ok_cons (by show PySem.W.kitOne K (.ref ((ga K Z).ca "OverBudget")) (.ref ((ga K Z).ca "Nothing")) = _; rw [ca_OverBudget, ca_Nothing]; exact kit_kc T.qm_OverBudget_Nothing T.ks_Nothing T.ky_Nothing) (ec_OverBudget T) <| XTab.ok_cons (by show PySem.W.kitOne K (.ref ((ga K Z).ca "OverBudget")) (.ref ((ga K Z).ca "OverBudget")) = _; rw [ca_OverBudget]; exact Lk.kitOne_self _ _) (ec_OverBudget T) <| XTab.ok_cons (by show PySem.W.kitOne K (.ref ((ga K Z).ca "OverBudget")) (.ref ((ga K Z).ca "TooMany")) = _; rw [ca_OverBudget, ca_TooMany]; exact kit_kc T.qm_OverBudget_TooMany T.ks_TooMany T.ky_TooMany) (ec_OverBudget T) <| XTab.ok_cons (by show PySem.W.kitOne K (.ref ((ga K Z).ca "OverBudget")) (.ref ((ga K Z).ca "UnlikeGrids")) = _; rw [ca_OverBudget, ca_UnlikeGrids]; exact kit_kc T.qm_OverBudget_UnlikeGrids T.ks_UnlikeGrids T.ky_UnlikeGrids) (ec_OverBudget T) <| XTab.ok_cons (by rw [ca_OverBudget]; exact kit_kt T.qm_OverBudget_ValueError (by decide +kernel)) (ec_OverBudget T) <| XTab.ok_nil
def xtab_TooMany : XTab := [("TooMany", (false, "InvalidBits"), false), ("TooMany", (false, "InvalidBox"), false), ("TooMany", (false, "InvalidBoxes"), false), ("TooMany", (false, "InvalidBudget"), false), ("TooMany", (false, "InvalidCell"), false), ("TooMany", (false, "InvalidCommand"), false), ("TooMany", (false, "InvalidIndex"), false), ("TooMany", (false, "InvalidKey"), false), ("TooMany", (false, "InvalidLayout"), false), ("TooMany", (false, "InvalidLoad"), false), ("TooMany", (false, "InvalidNumber"), false), ("TooMany", (false, "InvalidOperation"), false), ("TooMany", (false, "InvalidSize"), false), ("TooMany", (false, "InvalidText"), false), ("TooMany", (false, "InvalidWord"), false), ("TooMany", (false, "LaceError"), true), ("TooMany", (false, "Nothing"), false), ("TooMany", (false, "OverBudget"), false), ("TooMany", (false, "TooMany"), true), ("TooMany", (false, "UnlikeGrids"), false), ("TooMany", (true, "ValueError"), true)]
theorem xq_TooMany {K : PySem.W.Frag} {mg : Str → Option Value} {Z : Ads} (T : Top K mg Z) : xtab_TooMany.Ok (ga K Z) :=
  XTab.ok_cons (by show PySem.W.kitOne K (.ref ((ga K Z).ca "TooMany")) (.ref ((ga K Z).ca "InvalidBits")) = _; rw [ca_TooMany, ca_InvalidBits]; exact kit_kc T.qm_TooMany_InvalidBits T.ks_InvalidBits T.ky_InvalidBits) (ec_TooMany T) <| XTab.ok_cons (by show PySem.W.kitOne K (.ref ((ga K Z).ca "TooMany")) (.ref ((ga K Z).ca "InvalidBox")) = _; rw [ca_TooMany, ca_InvalidBox]; exact kit_kc T.qm_TooMany_InvalidBox T.ks_InvalidBox T.ky_InvalidBox) (ec_TooMany T) <| XTab.ok_cons (by show PySem.W.kitOne K (.ref ((ga K Z).ca "TooMany")) (.ref ((ga K Z).ca "InvalidBoxes")) = _; rw [ca_TooMany, ca_InvalidBoxes]; exact kit_kc T.qm_TooMany_InvalidBoxes T.ks_InvalidBoxes T.ky_InvalidBoxes) (ec_TooMany T) <| XTab.ok_cons (by show PySem.W.kitOne K (.ref ((ga K Z).ca "TooMany")) (.ref ((ga K Z).ca "InvalidBudget")) = _; rw [ca_TooMany, ca_InvalidBudget]; exact kit_kc T.qm_TooMany_InvalidBudget T.ks_InvalidBudget T.ky_InvalidBudget) (ec_TooMany T) <| XTab.ok_cons (by show PySem.W.kitOne K (.ref ((ga K Z).ca "TooMany")) (.ref ((ga K Z).ca "InvalidCell")) = _; rw [ca_TooMany, ca_InvalidCell]; exact kit_kc T.qm_TooMany_InvalidCell T.ks_InvalidCell T.ky_InvalidCell) (ec_TooMany T) <| XTab.ok_cons (by show PySem.W.kitOne K (.ref ((ga K Z).ca "TooMany")) (.ref ((ga K Z).ca "InvalidCommand")) = _; rw [ca_TooMany, ca_InvalidCommand]; exact kit_kc T.qm_TooMany_InvalidCommand T.ks_InvalidCommand T.ky_InvalidCommand) (ec_TooMany T) <| XTab.ok_cons (by show PySem.W.kitOne K (.ref ((ga K Z).ca "TooMany")) (.ref ((ga K Z).ca "InvalidIndex")) = _; rw [ca_TooMany, ca_InvalidIndex]; exact kit_kc T.qm_TooMany_InvalidIndex T.ks_InvalidIndex T.ky_InvalidIndex) (ec_TooMany T) <| XTab.ok_cons (by show PySem.W.kitOne K (.ref ((ga K Z).ca "TooMany")) (.ref ((ga K Z).ca "InvalidKey")) = _; rw [ca_TooMany, ca_InvalidKey]; exact kit_kc T.qm_TooMany_InvalidKey T.ks_InvalidKey T.ky_InvalidKey) (ec_TooMany T) <| XTab.ok_cons (by show PySem.W.kitOne K (.ref ((ga K Z).ca "TooMany")) (.ref ((ga K Z).ca "InvalidLayout")) = _; rw [ca_TooMany, ca_InvalidLayout]; exact kit_kc T.qm_TooMany_InvalidLayout T.ks_InvalidLayout T.ky_InvalidLayout) (ec_TooMany T) <| XTab.ok_cons (by show PySem.W.kitOne K (.ref ((ga K Z).ca "TooMany")) (.ref ((ga K Z).ca "InvalidLoad")) = _; rw [ca_TooMany, ca_InvalidLoad]; exact kit_kc T.qm_TooMany_InvalidLoad T.ks_InvalidLoad T.ky_InvalidLoad) (ec_TooMany T) <| XTab.ok_cons (by show PySem.W.kitOne K (.ref ((ga K Z).ca "TooMany")) (.ref ((ga K Z).ca "InvalidNumber")) = _; rw [ca_TooMany, ca_InvalidNumber]; exact kit_kc T.qm_TooMany_InvalidNumber T.ks_InvalidNumber T.ky_InvalidNumber) (ec_TooMany T) <| XTab.ok_cons (by show PySem.W.kitOne K (.ref ((ga K Z).ca "TooMany")) (.ref ((ga K Z).ca "InvalidOperation")) = _; rw [ca_TooMany, ca_InvalidOperation]; exact kit_kc T.qm_TooMany_InvalidOperation T.ks_InvalidOperation T.ky_InvalidOperation) (ec_TooMany T) <| XTab.ok_cons (by show PySem.W.kitOne K (.ref ((ga K Z).ca "TooMany")) (.ref ((ga K Z).ca "InvalidSize")) = _; rw [ca_TooMany, ca_InvalidSize]; exact kit_kc T.qm_TooMany_InvalidSize T.ks_InvalidSize T.ky_InvalidSize) (ec_TooMany T) <| XTab.ok_cons (by show PySem.W.kitOne K (.ref ((ga K Z).ca "TooMany")) (.ref ((ga K Z).ca "InvalidText")) = _; rw [ca_TooMany, ca_InvalidText]; exact kit_kc T.qm_TooMany_InvalidText T.ks_InvalidText T.ky_InvalidText) (ec_TooMany T) <| XTab.ok_cons (by show PySem.W.kitOne K (.ref ((ga K Z).ca "TooMany")) (.ref ((ga K Z).ca "InvalidWord")) = _; rw [ca_TooMany, ca_InvalidWord]; exact kit_kc T.qm_TooMany_InvalidWord T.ks_InvalidWord T.ky_InvalidWord) (ec_TooMany T) <| XTab.ok_cons (by show PySem.W.kitOne K (.ref ((ga K Z).ca "TooMany")) (.ref ((ga K Z).ca "LaceError")) = _; rw [ca_TooMany, ca_LaceError]; exact kit_kc T.qm_TooMany_LaceError T.ks_LaceError T.ky_LaceError) (ec_TooMany T) <| XTab.ok_cons (by show PySem.W.kitOne K (.ref ((ga K Z).ca "TooMany")) (.ref ((ga K Z).ca "Nothing")) = _; rw [ca_TooMany, ca_Nothing]; exact kit_kc T.qm_TooMany_Nothing T.ks_Nothing T.ky_Nothing) (ec_TooMany T) <| XTab.ok_cons (by show PySem.W.kitOne K (.ref ((ga K Z).ca "TooMany")) (.ref ((ga K Z).ca "OverBudget")) = _; rw [ca_TooMany, ca_OverBudget]; exact kit_kc T.qm_TooMany_OverBudget T.ks_OverBudget T.ky_OverBudget) (ec_TooMany T) <| XTab.ok_cons (by show PySem.W.kitOne K (.ref ((ga K Z).ca "TooMany")) (.ref ((ga K Z).ca "TooMany")) = _; rw [ca_TooMany]; exact Lk.kitOne_self _ _) (ec_TooMany T) <| XTab.ok_cons (by show PySem.W.kitOne K (.ref ((ga K Z).ca "TooMany")) (.ref ((ga K Z).ca "UnlikeGrids")) = _; rw [ca_TooMany, ca_UnlikeGrids]; exact kit_kc T.qm_TooMany_UnlikeGrids T.ks_UnlikeGrids T.ky_UnlikeGrids) (ec_TooMany T) <| XTab.ok_cons (by rw [ca_TooMany]; exact kit_kt T.qm_TooMany_ValueError (by decide +kernel)) (ec_TooMany T) <| XTab.ok_nil
def xtab_UnlikeGrids : XTab := [("UnlikeGrids", (false, "InvalidBits"), false), ("UnlikeGrids", (false, "InvalidBox"), false), ("UnlikeGrids", (false, "InvalidBoxes"), false), ("UnlikeGrids", (false, "InvalidBudget"), false), ("UnlikeGrids", (false, "InvalidCell"), false), ("UnlikeGrids", (false, "InvalidCommand"), false), ("UnlikeGrids", (false, "InvalidIndex"), false), ("UnlikeGrids", (false, "InvalidKey"), false), ("UnlikeGrids", (false, "InvalidLayout"), false), ("UnlikeGrids", (false, "InvalidLoad"), false), ("UnlikeGrids", (false, "InvalidNumber"), false), ("UnlikeGrids", (false, "InvalidOperation"), false), ("UnlikeGrids", (false, "InvalidSize"), false), ("UnlikeGrids", (false, "InvalidText"), false), ("UnlikeGrids", (false, "InvalidWord"), false), ("UnlikeGrids", (false, "LaceError"), true), ("UnlikeGrids", (false, "Nothing"), false), ("UnlikeGrids", (false, "OverBudget"), false), ("UnlikeGrids", (false, "TooMany"), false), ("UnlikeGrids", (false, "UnlikeGrids"), true), ("UnlikeGrids", (true, "ValueError"), true)]
theorem xq_UnlikeGrids {K : PySem.W.Frag} {mg : Str → Option Value} {Z : Ads} (T : Top K mg Z) : xtab_UnlikeGrids.Ok (ga K Z) :=
  XTab.ok_cons (by show PySem.W.kitOne K (.ref ((ga K Z).ca "UnlikeGrids")) (.ref ((ga K Z).ca "InvalidBits")) = _; rw [ca_UnlikeGrids, ca_InvalidBits]; exact kit_kc T.qm_UnlikeGrids_InvalidBits T.ks_InvalidBits T.ky_InvalidBits) (ec_UnlikeGrids T) <| XTab.ok_cons (by show PySem.W.kitOne K (.ref ((ga K Z).ca "UnlikeGrids")) (.ref ((ga K Z).ca "InvalidBox")) = _; rw [ca_UnlikeGrids, ca_InvalidBox]; exact kit_kc T.qm_UnlikeGrids_InvalidBox T.ks_InvalidBox T.ky_InvalidBox) (ec_UnlikeGrids T) <| XTab.ok_cons (by show PySem.W.kitOne K (.ref ((ga K Z).ca "UnlikeGrids")) (.ref ((ga K Z).ca "InvalidBoxes")) = _; rw [ca_UnlikeGrids, ca_InvalidBoxes]; exact kit_kc T.qm_UnlikeGrids_InvalidBoxes T.ks_InvalidBoxes T.ky_InvalidBoxes) (ec_UnlikeGrids T) <| XTab.ok_cons (by show PySem.W.kitOne K (.ref ((ga K Z).ca "UnlikeGrids")) (.ref ((ga K Z).ca "InvalidBudget")) = _; rw [ca_UnlikeGrids, ca_InvalidBudget]; exact kit_kc T.qm_UnlikeGrids_InvalidBudget T.ks_InvalidBudget T.ky_InvalidBudget) (ec_UnlikeGrids T) <| XTab.ok_cons (by show PySem.W.kitOne K (.ref ((ga K Z).ca "UnlikeGrids")) (.ref ((ga K Z).ca "InvalidCell")) = _; rw [ca_UnlikeGrids, ca_InvalidCell]; exact kit_kc T.qm_UnlikeGrids_InvalidCell T.ks_InvalidCell T.ky_InvalidCell) (ec_UnlikeGrids T) <| XTab.ok_cons (by show PySem.W.kitOne K (.ref ((ga K Z).ca "UnlikeGrids")) (.ref ((ga K Z).ca "InvalidCommand")) = _; rw [ca_UnlikeGrids, ca_InvalidCommand]; exact kit_kc T.qm_UnlikeGrids_InvalidCommand T.ks_InvalidCommand T.ky_InvalidCommand) (ec_UnlikeGrids T) <| XTab.ok_cons (by show PySem.W.kitOne K (.ref ((ga K Z).ca "UnlikeGrids")) (.ref ((ga K Z).ca "InvalidIndex")) = _; rw [ca_UnlikeGrids, ca_InvalidIndex]; exact kit_kc T.qm_UnlikeGrids_InvalidIndex T.ks_InvalidIndex T.ky_InvalidIndex) (ec_UnlikeGrids T) <| XTab.ok_cons (by show PySem.W.kitOne K (.ref ((ga K Z).ca "UnlikeGrids")) (.ref ((ga K Z).ca "InvalidKey")) = _; rw [ca_UnlikeGrids, ca_InvalidKey]; exact kit_kc T.qm_UnlikeGrids_InvalidKey T.ks_InvalidKey T.ky_InvalidKey) (ec_UnlikeGrids T) <| XTab.ok_cons (by show PySem.W.kitOne K (.ref ((ga K Z).ca "UnlikeGrids")) (.ref ((ga K Z).ca "InvalidLayout")) = _; rw [ca_UnlikeGrids, ca_InvalidLayout]; exact kit_kc T.qm_UnlikeGrids_InvalidLayout T.ks_InvalidLayout T.ky_InvalidLayout) (ec_UnlikeGrids T) <| XTab.ok_cons (by show PySem.W.kitOne K (.ref ((ga K Z).ca "UnlikeGrids")) (.ref ((ga K Z).ca "InvalidLoad")) = _; rw [ca_UnlikeGrids, ca_InvalidLoad]; exact kit_kc T.qm_UnlikeGrids_InvalidLoad T.ks_InvalidLoad T.ky_InvalidLoad) (ec_UnlikeGrids T) <| XTab.ok_cons (by show PySem.W.kitOne K (.ref ((ga K Z).ca "UnlikeGrids")) (.ref ((ga K Z).ca "InvalidNumber")) = _; rw [ca_UnlikeGrids, ca_InvalidNumber]; exact kit_kc T.qm_UnlikeGrids_InvalidNumber T.ks_InvalidNumber T.ky_InvalidNumber) (ec_UnlikeGrids T) <| XTab.ok_cons (by show PySem.W.kitOne K (.ref ((ga K Z).ca "UnlikeGrids")) (.ref ((ga K Z).ca "InvalidOperation")) = _; rw [ca_UnlikeGrids, ca_InvalidOperation]; exact kit_kc T.qm_UnlikeGrids_InvalidOperation T.ks_InvalidOperation T.ky_InvalidOperation) (ec_UnlikeGrids T) <| XTab.ok_cons (by show PySem.W.kitOne K (.ref ((ga K Z).ca "UnlikeGrids")) (.ref ((ga K Z).ca "InvalidSize")) = _; rw [ca_UnlikeGrids, ca_InvalidSize]; exact kit_kc T.qm_UnlikeGrids_InvalidSize T.ks_InvalidSize T.ky_InvalidSize) (ec_UnlikeGrids T) <| XTab.ok_cons (by show PySem.W.kitOne K (.ref ((ga K Z).ca "UnlikeGrids")) (.ref ((ga K Z).ca "InvalidText")) = _; rw [ca_UnlikeGrids, ca_InvalidText]; exact kit_kc T.qm_UnlikeGrids_InvalidText T.ks_InvalidText T.ky_InvalidText) (ec_UnlikeGrids T) <| XTab.ok_cons (by show PySem.W.kitOne K (.ref ((ga K Z).ca "UnlikeGrids")) (.ref ((ga K Z).ca "InvalidWord")) = _; rw [ca_UnlikeGrids, ca_InvalidWord]; exact kit_kc T.qm_UnlikeGrids_InvalidWord T.ks_InvalidWord T.ky_InvalidWord) (ec_UnlikeGrids T) <| XTab.ok_cons (by show PySem.W.kitOne K (.ref ((ga K Z).ca "UnlikeGrids")) (.ref ((ga K Z).ca "LaceError")) = _; rw [ca_UnlikeGrids, ca_LaceError]; exact kit_kc T.qm_UnlikeGrids_LaceError T.ks_LaceError T.ky_LaceError) (ec_UnlikeGrids T) <| XTab.ok_cons (by show PySem.W.kitOne K (.ref ((ga K Z).ca "UnlikeGrids")) (.ref ((ga K Z).ca "Nothing")) = _; rw [ca_UnlikeGrids, ca_Nothing]; exact kit_kc T.qm_UnlikeGrids_Nothing T.ks_Nothing T.ky_Nothing) (ec_UnlikeGrids T) <| XTab.ok_cons (by show PySem.W.kitOne K (.ref ((ga K Z).ca "UnlikeGrids")) (.ref ((ga K Z).ca "OverBudget")) = _; rw [ca_UnlikeGrids, ca_OverBudget]; exact kit_kc T.qm_UnlikeGrids_OverBudget T.ks_OverBudget T.ky_OverBudget) (ec_UnlikeGrids T) <| XTab.ok_cons (by show PySem.W.kitOne K (.ref ((ga K Z).ca "UnlikeGrids")) (.ref ((ga K Z).ca "TooMany")) = _; rw [ca_UnlikeGrids, ca_TooMany]; exact kit_kc T.qm_UnlikeGrids_TooMany T.ks_TooMany T.ky_TooMany) (ec_UnlikeGrids T) <| XTab.ok_cons (by show PySem.W.kitOne K (.ref ((ga K Z).ca "UnlikeGrids")) (.ref ((ga K Z).ca "UnlikeGrids")) = _; rw [ca_UnlikeGrids]; exact Lk.kitOne_self _ _) (ec_UnlikeGrids T) <| XTab.ok_cons (by rw [ca_UnlikeGrids]; exact kit_kt T.qm_UnlikeGrids_ValueError (by decide +kernel)) (ec_UnlikeGrids T) <| XTab.ok_nil
def xtab : XTab := xtab_InvalidBits ++ (xtab_InvalidBox ++ (xtab_InvalidBoxes ++ (xtab_InvalidBudget ++ (xtab_InvalidCell ++ (xtab_InvalidCommand ++ (xtab_InvalidIndex ++ (xtab_InvalidKey ++ (xtab_InvalidLayout ++ (xtab_InvalidLoad ++ (xtab_InvalidNumber ++ (xtab_InvalidOperation ++ (xtab_InvalidSize ++ (xtab_InvalidText ++ (xtab_InvalidWord ++ (xtab_LaceError ++ (xtab_Nothing ++ (xtab_OverBudget ++ (xtab_TooMany ++ (xtab_UnlikeGrids ++ ([]))))))))))))))))))))
theorem xtab_ok {K : PySem.W.Frag} {mg : Str → Option Value} {Z : Ads} (T : Top K mg Z) : xtab.Ok (ga K Z) :=
  XTab.ok_app (xq_InvalidBits T) <| XTab.ok_app (xq_InvalidBox T) <| XTab.ok_app (xq_InvalidBoxes T) <| XTab.ok_app (xq_InvalidBudget T) <| XTab.ok_app (xq_InvalidCell T) <| XTab.ok_app (xq_InvalidCommand T) <| XTab.ok_app (xq_InvalidIndex T) <| XTab.ok_app (xq_InvalidKey T) <| XTab.ok_app (xq_InvalidLayout T) <| XTab.ok_app (xq_InvalidLoad T) <| XTab.ok_app (xq_InvalidNumber T) <| XTab.ok_app (xq_InvalidOperation T) <| XTab.ok_app (xq_InvalidSize T) <| XTab.ok_app (xq_InvalidText T) <| XTab.ok_app (xq_InvalidWord T) <| XTab.ok_app (xq_LaceError T) <| XTab.ok_app (xq_Nothing T) <| XTab.ok_app (xq_OverBudget T) <| XTab.ok_app (xq_TooMany T) <| XTab.ok_app (xq_UnlikeGrids T) <| XTab.ok_nil
theorem xf_item {K : PySem.W.Frag} {mg : Str → Option Value} {Z : Ads} (T : Top K mg Z) : ∀ n ∈ (["InvalidBoxes", "InvalidLoad"] : List String), XfC K ((ga K Z).ca n) ∧ PySem.W.findIn K (.ref ((ga K Z).ca n)) "item" = some none := by
  intro n hn
  simp only [List.mem_cons, List.not_mem_nil, or_false] at hn
  rcases hn with rfl | rfl
  · rw [ca_InvalidBoxes]; exact ⟨T.ox_InvalidBoxes.X, T.ox_InvalidBoxes.no⟩
  · rw [ca_InvalidLoad]; exact ⟨T.ox_InvalidLoad.X, T.ox_InvalidLoad.no⟩
theorem xf_limit {K : PySem.W.Frag} {mg : Str → Option Value} {Z : Ads} (T : Top K mg Z) : ∀ n ∈ (["TooMany"] : List String), XfC K ((ga K Z).ca n) ∧ PySem.W.findIn K (.ref ((ga K Z).ca n)) "limit" = some none := by
  intro n hn
  simp only [List.mem_cons, List.not_mem_nil, or_false] at hn
  subst hn
  rw [ca_TooMany]; exact ⟨T.ox_TooMany.X, T.ox_TooMany.no⟩
theorem xf_part {K : PySem.W.Frag} {mg : Str → Option Value} {Z : Ads} (T : Top K mg Z) : ∀ n ∈ (["InvalidText"] : List String), XfC K ((ga K Z).ca n) ∧ PySem.W.findIn K (.ref ((ga K Z).ca n)) "part" = some none := by
  intro n hn
  simp only [List.mem_cons, List.not_mem_nil, or_false] at hn
  subst hn
  rw [ca_InvalidText]; exact ⟨T.ox_InvalidText.X, T.ox_InvalidText.no⟩
theorem xf_total {K : PySem.W.Frag} {mg : Str → Option Value} {Z : Ads} (T : Top K mg Z) : ∀ n ∈ (["OverBudget"] : List String), XfC K ((ga K Z).ca n) ∧ PySem.W.findIn K (.ref ((ga K Z).ca n)) "total" = some none := by
  intro n hn
  simp only [List.mem_cons, List.not_mem_nil, or_false] at hn
  subst hn
  rw [ca_OverBudget]; exact ⟨T.ox_OverBudget.X, T.ox_OverBudget.no⟩
noncomputable section
variable {P : Program} {w : World} {K : PySem.W.Frag} {mg : Str → Option Value} {base : Heap}
def fn_law_bag : FnD := runF [false] false 1
  (sRet (eLst (aCons (eB b_max2 (aCons (eC (.int 0)) (aCons (e2 subD (eV 0) (e2 powD (eC (.int 10)) (eC (.int 18)))) aNil))) (aCons (eV 0) (aCons (eC (.int 0)) aNil)))))
theorem ok_law_bag {Z : Ads} (T : Top K mg Z) : Lk.FnG Z.P_ w K mg base 1 Z.f_law_bag Z.d_law_bag ["cell"] (spM0 (ga K Z) [false] .own fn_law_bag) := by
  refine Lk.okG T.F_law_bag sclaw_bag (fun vs H Q E h => spM.len h) (fun cdv A outer s H vs Q E hgd hr h => ?_)
  refine ⟨_, ?_, fn_body0 (cs := []) (c' := []) h rfl rfl (by decide) (fun z => by cases z)⟩
  exact (mss_one (ms_ret (me_lst (ks := [.full, .full, .full]) (ma_cons (k := .full) (me_callB (call_max2 (by rfl)) so_max2 (by rfl) T.z_max (by decide +kernel) (ma_cons (k := .full) me_int (ma_cons (k := .full) (me_op op_sub so_sub (me_v (i := 0) (pv 0)) (me_root (me_op Lk.op_powB so_pow me_int (me_root me_int)))) ma_nil))) (ma_cons (k := .full) (me_v (i := 0) (pv 0)) (ma_cons (k := .full) me_int ma_nil))))))
def fn_law_classes : FnD := runF [false] false 2
  (sSeq (sSet 1 (eLst (aCons (eB (b_isx xtab) (aCons (eV 0) (aCons (eC (.cls "InvalidLoad")) aNil))) (aCons (eB (b_isx xtab) (aCons (eV 0) (aCons (eC (.cls "InvalidBoxes")) aNil))) (aCons (eB (b_isx xtab) (aCons (eV 0) (aCons (eC (.cls "InvalidText")) aNil))) aNil)))))
  (sSeq (sSet 1 (e2 addD (eV 1) (eLst (aCons (eB (b_isx xtab) (aCons (eV 0) (aCons (eC (.cls "TooMany")) aNil))) (aCons (eB (b_isx xtab) (aCons (eV 0) (aCons (eC (.cls "OverBudget")) aNil))) (aCons (eB (b_isx xtab) (aCons (eV 0) (aCons (eC (.cls "InvalidWord")) aNil))) aNil))))))
  (sSeq (sSet 1 (e2 addD (eV 1) (eLst (aCons (eB (b_isx xtab) (aCons (eV 0) (aCons (eC (.cls "InvalidLayout")) aNil))) (aCons (eB (b_isx xtab) (aCons (eV 0) (aCons (eC (.cls "InvalidBits")) aNil))) (aCons (eB (b_isx xtab) (aCons (eV 0) (aCons (eC (.cls "InvalidCell")) aNil))) aNil))))))
  (sSeq (sSet 1 (e2 addD (eV 1) (eLst (aCons (eB (b_isx xtab) (aCons (eV 0) (aCons (eC (.cls "InvalidKey")) aNil))) (aCons (eB (b_isx xtab) (aCons (eV 0) (aCons (eC (.cls "InvalidBox")) aNil))) (aCons (eB (b_isx xtab) (aCons (eV 0) (aCons (eC (.cls "InvalidIndex")) aNil))) aNil))))))
  (sSeq (sSet 1 (e2 addD (eV 1) (eLst (aCons (eB (b_isx xtab) (aCons (eV 0) (aCons (eC (.cls "InvalidNumber")) aNil))) (aCons (eB (b_isx xtab) (aCons (eV 0) (aCons (eC (.cls "InvalidSize")) aNil))) (aCons (eB (b_isx xtab) (aCons (eV 0) (aCons (eC (.cls "InvalidBudget")) aNil))) aNil))))))
  (sSeq (sSet 1 (e2 addD (eV 1) (eLst (aCons (eB (b_isx xtab) (aCons (eV 0) (aCons (eC (.cls "UnlikeGrids")) aNil))) (aCons (eB (b_isx xtab) (aCons (eV 0) (aCons (eC (.cls "InvalidOperation")) aNil))) (aCons (eB (b_isx xtab) (aCons (eV 0) (aCons (eC (.cls "Nothing")) aNil))) aNil))))))
  (sRet (e2 addD (eV 1) (eLst (aCons (eB (b_isx xtab) (aCons (eV 0) (aCons (eC (.cls "InvalidCommand")) aNil))) aNil))))))))))
theorem ok_law_classes {Z : Ads} (T : Top K mg Z) : Lk.FnG Z.P_ w K mg base 1 Z.f_law_classes Z.d_law_classes ["one"] (spM0 (ga K Z) [false] .full fn_law_classes) := by
  refine Lk.okG T.F_law_classes sclaw_classes (fun vs H Q E h => spM.len h) (fun cdv A outer s H vs Q E hgd hr h => ?_)
  refine ⟨_, ?_, fn_body0 (cs := []) (c' := []) h rfl rfl (by decide) (fun z => by cases z)⟩
  exact (mss_cons (c1 := []) (ms_set (i := 1) sclaw_classes.nd rfl (.inl rfl) (me_own (me_lst (ks := [.full, .full, .full]) (ma_cons (k := .full) (me_callB o_isx (so_isx (xtab_ok T)) (by rfl) T.z_isinstance (by decide +kernel) (ma_cons (k := .full) (me_v (i := 0) (pv 0)) (ma_cons (k := .full) (me_c (pe_glob (v := .ref Z.C_InvalidLoad) (by rfl) T.m_InvalidLoad rfl) (fun _ => dtc_InvalidLoad)) ma_nil))) (ma_cons (k := .full) (me_callB o_isx (so_isx (xtab_ok T)) (by rfl) T.z_isinstance (by decide +kernel) (ma_cons (k := .full) (me_v (i := 0) (pv 0)) (ma_cons (k := .full) (me_c (pe_glob (v := .ref Z.C_InvalidBoxes) (by rfl) T.m_InvalidBoxes rfl) (fun _ => dtc_InvalidBoxes)) ma_nil))) (ma_cons (k := .full) (me_callB o_isx (so_isx (xtab_ok T)) (by rfl) T.z_isinstance (by decide +kernel) (ma_cons (k := .full) (me_v (i := 0) (pv 0)) (ma_cons (k := .full) (me_c (pe_glob (v := .ref Z.C_InvalidText) (by rfl) T.m_InvalidText rfl) (fun _ => dtc_InvalidText)) ma_nil))) ma_nil))))))
      (mss_cons (c1 := []) (ms_set (i := 1) sclaw_classes.nd rfl (.inl rfl) (me_op o_add so_add (me_v (i := 1) (pv 1)) (me_ownR (me_lst (ks := [.full, .full, .full]) (ma_cons (k := .full) (me_callB o_isx (so_isx (xtab_ok T)) (by rfl) T.z_isinstance (by decide +kernel) (ma_cons (k := .full) (me_v (i := 0) (pv 0)) (ma_cons (k := .full) (me_c (pe_glob (v := .ref Z.C_TooMany) (by rfl) T.m_TooMany rfl) (fun _ => dtc_TooMany)) ma_nil))) (ma_cons (k := .full) (me_callB o_isx (so_isx (xtab_ok T)) (by rfl) T.z_isinstance (by decide +kernel) (ma_cons (k := .full) (me_v (i := 0) (pv 0)) (ma_cons (k := .full) (me_c (pe_glob (v := .ref Z.C_OverBudget) (by rfl) T.m_OverBudget rfl) (fun _ => dtc_OverBudget)) ma_nil))) (ma_cons (k := .full) (me_callB o_isx (so_isx (xtab_ok T)) (by rfl) T.z_isinstance (by decide +kernel) (ma_cons (k := .full) (me_v (i := 0) (pv 0)) (ma_cons (k := .full) (me_c (pe_glob (v := .ref Z.C_InvalidWord) (by rfl) T.m_InvalidWord rfl) (fun _ => dtc_InvalidWord)) ma_nil))) ma_nil)))))))
      (mss_cons (c1 := []) (ms_set (i := 1) sclaw_classes.nd rfl (.inl rfl) (me_op o_add so_add (me_v (i := 1) (pv 1)) (me_ownR (me_lst (ks := [.full, .full, .full]) (ma_cons (k := .full) (me_callB o_isx (so_isx (xtab_ok T)) (by rfl) T.z_isinstance (by decide +kernel) (ma_cons (k := .full) (me_v (i := 0) (pv 0)) (ma_cons (k := .full) (me_c (pe_glob (v := .ref Z.C_InvalidLayout) (by rfl) T.m_InvalidLayout rfl) (fun _ => dtc_InvalidLayout)) ma_nil))) (ma_cons (k := .full) (me_callB o_isx (so_isx (xtab_ok T)) (by rfl) T.z_isinstance (by decide +kernel) (ma_cons (k := .full) (me_v (i := 0) (pv 0)) (ma_cons (k := .full) (me_c (pe_glob (v := .ref Z.C_InvalidBits) (by rfl) T.m_InvalidBits rfl) (fun _ => dtc_InvalidBits)) ma_nil))) (ma_cons (k := .full) (me_callB o_isx (so_isx (xtab_ok T)) (by rfl) T.z_isinstance (by decide +kernel) (ma_cons (k := .full) (me_v (i := 0) (pv 0)) (ma_cons (k := .full) (me_c (pe_glob (v := .ref Z.C_InvalidCell) (by rfl) T.m_InvalidCell rfl) (fun _ => dtc_InvalidCell)) ma_nil))) ma_nil)))))))
      (mss_cons (c1 := []) (ms_set (i := 1) sclaw_classes.nd rfl (.inl rfl) (me_op o_add so_add (me_v (i := 1) (pv 1)) (me_ownR (me_lst (ks := [.full, .full, .full]) (ma_cons (k := .full) (me_callB o_isx (so_isx (xtab_ok T)) (by rfl) T.z_isinstance (by decide +kernel) (ma_cons (k := .full) (me_v (i := 0) (pv 0)) (ma_cons (k := .full) (me_c (pe_glob (v := .ref Z.C_InvalidKey) (by rfl) T.m_InvalidKey rfl) (fun _ => dtc_InvalidKey)) ma_nil))) (ma_cons (k := .full) (me_callB o_isx (so_isx (xtab_ok T)) (by rfl) T.z_isinstance (by decide +kernel) (ma_cons (k := .full) (me_v (i := 0) (pv 0)) (ma_cons (k := .full) (me_c (pe_glob (v := .ref Z.C_InvalidBox) (by rfl) T.m_InvalidBox rfl) (fun _ => dtc_InvalidBox)) ma_nil))) (ma_cons (k := .full) (me_callB o_isx (so_isx (xtab_ok T)) (by rfl) T.z_isinstance (by decide +kernel) (ma_cons (k := .full) (me_v (i := 0) (pv 0)) (ma_cons (k := .full) (me_c (pe_glob (v := .ref Z.C_InvalidIndex) (by rfl) T.m_InvalidIndex rfl) (fun _ => dtc_InvalidIndex)) ma_nil))) ma_nil)))))))
      (mss_cons (c1 := []) (ms_set (i := 1) sclaw_classes.nd rfl (.inl rfl) (me_op o_add so_add (me_v (i := 1) (pv 1)) (me_ownR (me_lst (ks := [.full, .full, .full]) (ma_cons (k := .full) (me_callB o_isx (so_isx (xtab_ok T)) (by rfl) T.z_isinstance (by decide +kernel) (ma_cons (k := .full) (me_v (i := 0) (pv 0)) (ma_cons (k := .full) (me_c (pe_glob (v := .ref Z.C_InvalidNumber) (by rfl) T.m_InvalidNumber rfl) (fun _ => dtc_InvalidNumber)) ma_nil))) (ma_cons (k := .full) (me_callB o_isx (so_isx (xtab_ok T)) (by rfl) T.z_isinstance (by decide +kernel) (ma_cons (k := .full) (me_v (i := 0) (pv 0)) (ma_cons (k := .full) (me_c (pe_glob (v := .ref Z.C_InvalidSize) (by rfl) T.m_InvalidSize rfl) (fun _ => dtc_InvalidSize)) ma_nil))) (ma_cons (k := .full) (me_callB o_isx (so_isx (xtab_ok T)) (by rfl) T.z_isinstance (by decide +kernel) (ma_cons (k := .full) (me_v (i := 0) (pv 0)) (ma_cons (k := .full) (me_c (pe_glob (v := .ref Z.C_InvalidBudget) (by rfl) T.m_InvalidBudget rfl) (fun _ => dtc_InvalidBudget)) ma_nil))) ma_nil)))))))
      (mss_cons (c1 := []) (ms_set (i := 1) sclaw_classes.nd rfl (.inl rfl) (me_op o_add so_add (me_v (i := 1) (pv 1)) (me_ownR (me_lst (ks := [.full, .full, .full]) (ma_cons (k := .full) (me_callB o_isx (so_isx (xtab_ok T)) (by rfl) T.z_isinstance (by decide +kernel) (ma_cons (k := .full) (me_v (i := 0) (pv 0)) (ma_cons (k := .full) (me_c (pe_glob (v := .ref Z.C_UnlikeGrids) (by rfl) T.m_UnlikeGrids rfl) (fun _ => dtc_UnlikeGrids)) ma_nil))) (ma_cons (k := .full) (me_callB o_isx (so_isx (xtab_ok T)) (by rfl) T.z_isinstance (by decide +kernel) (ma_cons (k := .full) (me_v (i := 0) (pv 0)) (ma_cons (k := .full) (me_c (pe_glob (v := .ref Z.C_InvalidOperation) (by rfl) T.m_InvalidOperation rfl) (fun _ => dtc_InvalidOperation)) ma_nil))) (ma_cons (k := .full) (me_callB o_isx (so_isx (xtab_ok T)) (by rfl) T.z_isinstance (by decide +kernel) (ma_cons (k := .full) (me_v (i := 0) (pv 0)) (ma_cons (k := .full) (me_c (pe_glob (v := .ref Z.C_Nothing) (by rfl) T.m_Nothing rfl) (fun _ => dtc_Nothing)) ma_nil))) ma_nil)))))))
      (mss_one (ms_ret (me_op o_add so_add (me_v (i := 1) (pv 1)) (me_ownR (me_lst (ks := [.full]) (ma_cons (k := .full) (me_callB o_isx (so_isx (xtab_ok T)) (by rfl) T.z_isinstance (by decide +kernel) (ma_cons (k := .full) (me_v (i := 0) (pv 0)) (ma_cons (k := .full) (me_c (pe_glob (v := .ref Z.C_InvalidCommand) (by rfl) T.m_InvalidCommand rfl) (fun _ => dtc_InvalidCommand)) ma_nil))) ma_nil))))))))))))
def fn_law_made : FnD := runF [false] false 2
  (sSeq (sSet 1 (eLst (aCons (eMkX "InvalidLoad" "not a valid load, item: " "item" (eV 0)) (aCons (eMkX "InvalidBoxes" "not a valid list of boxes, item: " "item" (eV 0)) (aCons (eMkX "InvalidText" "not the text of a load, part: " "part" (eV 0)) (aCons (eMkX "TooMany" "no more items than " "limit" (eV 0)) (aCons (eMkX "OverBudget" "above the budget, runs: " "total" (eV 0)) aNil)))))))
  (sSeq (sSet 1 (e2 addD (eV 1) (eLst (aCons (eMk0 "InvalidWord" (eC (.str "x"))) (aCons (eMk0 "InvalidLayout" (eC (.str "x"))) (aCons (eMk0 "InvalidBits" (eC (.str "x"))) (aCons (eMk0 "InvalidCell" (eC (.str "x"))) (aCons (eMk0 "InvalidKey" (eC (.str "x"))) aNil))))))))
  (sSeq (sSet 1 (e2 addD (eV 1) (eLst (aCons (eMk0 "InvalidBox" (eC (.str "x"))) (aCons (eMk0 "InvalidIndex" (eC (.str "x"))) (aCons (eMk0 "InvalidNumber" (eC (.str "x"))) (aCons (eMk0 "InvalidSize" (eC (.str "x"))) (aCons (eMk0 "InvalidBudget" (eC (.str "x"))) aNil))))))))
  (sRet (e2 addD (eV 1) (eLst (aCons (eMk0 "UnlikeGrids" (eC (.str "x"))) (aCons (eMk0 "InvalidOperation" (eC (.str "x"))) (aCons (eMk0 "Nothing" (eC (.str "x"))) (aCons (eMk0 "InvalidCommand" (eC (.str "x"))) aNil))))))))))
theorem ok_law_made {Z : Ads} (T : Top K mg Z) : Lk.FnG Z.P_ w K mg base 3 Z.f_law_made Z.d_law_made ["number"] (spM0 (ga K Z) [false] .full fn_law_made) := by
  refine Lk.okG T.F_law_made sclaw_made (fun vs H Q E h => spM.len h) (fun cdv A outer s H vs Q E hgd hr h => ?_)
  refine ⟨_, ?_, fn_body0 (cs := []) (c' := []) h rfl rfl (by decide) (fun z => by cases z)⟩
  exact (mss_cons (c1 := []) (ms_set (i := 1) sclaw_made.nd rfl (.inl rfl) (me_own (me_lst (ks := [.full, .full, .full, .full, .full]) (ma_cons (k := .full) (me_mkX ca_InvalidLoad T.ox_InvalidLoad.T T.ox_InvalidLoad.iC T.ox_InvalidLoad.tI (T.ox_InvalidLoad.F (k := 0) T.z_super) (hr.mono (by decide)) T.ox_InvalidLoad.b (by rfl) T.m_InvalidLoad (me_v (i := 0) (pv 0))) (ma_cons (k := .full) (me_mkX ca_InvalidBoxes T.ox_InvalidBoxes.T T.ox_InvalidBoxes.iC T.ox_InvalidBoxes.tI (T.ox_InvalidBoxes.F (k := 0) T.z_super) (hr.mono (by decide)) T.ox_InvalidBoxes.b (by rfl) T.m_InvalidBoxes (me_v (i := 0) (pv 0))) (ma_cons (k := .full) (me_mkX ca_InvalidText T.ox_InvalidText.T T.ox_InvalidText.iC T.ox_InvalidText.tI (T.ox_InvalidText.F (k := 0) T.z_super) (hr.mono (by decide)) T.ox_InvalidText.b (by rfl) T.m_InvalidText (me_v (i := 0) (pv 0))) (ma_cons (k := .full) (me_mkX ca_TooMany T.ox_TooMany.T T.ox_TooMany.iC T.ox_TooMany.tI (T.ox_TooMany.F (k := 0) T.z_super) (hr.mono (by decide)) T.ox_TooMany.b (by rfl) T.m_TooMany (me_v (i := 0) (pv 0))) (ma_cons (k := .full) (me_mkX ca_OverBudget T.ox_OverBudget.T T.ox_OverBudget.iC T.ox_OverBudget.tI (T.ox_OverBudget.F (k := 0) T.z_super) (hr.mono (by decide)) T.ox_OverBudget.b (by rfl) T.m_OverBudget (me_v (i := 0) (pv 0))) ma_nil))))))))
      (mss_cons (c1 := []) (ms_set (i := 1) sclaw_made.nd rfl (.inl rfl) (me_op o_add so_add (me_v (i := 1) (pv 1)) (me_ownR (me_lst (ks := [.full, .full, .full, .full, .full]) (ma_cons (k := .full) (me_mk0 ca_InvalidWord (SkE.pmk_own1 PySem.F.excBase_ValueError T.x_InvalidWord T.m_InvalidWord T.k_InvalidWord (raises_own T.rb_InvalidWord T.rt_InvalidWord) (by rfl) me_str)) (ma_cons (k := .full) (me_mk0 ca_InvalidLayout (SkE.pmk_own1 PySem.F.excBase_ValueError T.x_InvalidLayout T.m_InvalidLayout T.k_InvalidLayout (raises_own T.rb_InvalidLayout T.rt_InvalidLayout) (by rfl) me_str)) (ma_cons (k := .full) (me_mk0 ca_InvalidBits (SkE.pmk_own1 PySem.F.excBase_ValueError T.x_InvalidBits T.m_InvalidBits T.k_InvalidBits (raises_own T.rb_InvalidBits T.rt_InvalidBits) (by rfl) me_str)) (ma_cons (k := .full) (me_mk0 ca_InvalidCell (SkE.pmk_own1 PySem.F.excBase_ValueError T.x_InvalidCell T.m_InvalidCell T.k_InvalidCell (raises_own T.rb_InvalidCell T.rt_InvalidCell) (by rfl) me_str)) (ma_cons (k := .full) (me_mk0 ca_InvalidKey (SkE.pmk_own1 PySem.F.excBase_ValueError T.x_InvalidKey T.m_InvalidKey T.k_InvalidKey (raises_own T.rb_InvalidKey T.rt_InvalidKey) (by rfl) me_str)) ma_nil)))))))))
      (mss_cons (c1 := []) (ms_set (i := 1) sclaw_made.nd rfl (.inl rfl) (me_op o_add so_add (me_v (i := 1) (pv 1)) (me_ownR (me_lst (ks := [.full, .full, .full, .full, .full]) (ma_cons (k := .full) (me_mk0 ca_InvalidBox (SkE.pmk_own1 PySem.F.excBase_ValueError T.x_InvalidBox T.m_InvalidBox T.k_InvalidBox (raises_own T.rb_InvalidBox T.rt_InvalidBox) (by rfl) me_str)) (ma_cons (k := .full) (me_mk0 ca_InvalidIndex (SkE.pmk_own1 PySem.F.excBase_ValueError T.x_InvalidIndex T.m_InvalidIndex T.k_InvalidIndex (raises_own T.rb_InvalidIndex T.rt_InvalidIndex) (by rfl) me_str)) (ma_cons (k := .full) (me_mk0 ca_InvalidNumber (SkE.pmk_own1 PySem.F.excBase_ValueError T.x_InvalidNumber T.m_InvalidNumber T.k_InvalidNumber (raises_own T.rb_InvalidNumber T.rt_InvalidNumber) (by rfl) me_str)) (ma_cons (k := .full) (me_mk0 ca_InvalidSize (SkE.pmk_own1 PySem.F.excBase_ValueError T.x_InvalidSize T.m_InvalidSize T.k_InvalidSize (raises_own T.rb_InvalidSize T.rt_InvalidSize) (by rfl) me_str)) (ma_cons (k := .full) (me_mk0 ca_InvalidBudget (SkE.pmk_own1 PySem.F.excBase_ValueError T.x_InvalidBudget T.m_InvalidBudget T.k_InvalidBudget (raises_own T.rb_InvalidBudget T.rt_InvalidBudget) (by rfl) me_str)) ma_nil)))))))))
      (mss_one (ms_ret (me_op o_add so_add (me_v (i := 1) (pv 1)) (me_ownR (me_lst (ks := [.full, .full, .full, .full]) (ma_cons (k := .full) (me_mk0 ca_UnlikeGrids (SkE.pmk_own1 PySem.F.excBase_ValueError T.x_UnlikeGrids T.m_UnlikeGrids T.k_UnlikeGrids (raises_own T.rb_UnlikeGrids T.rt_UnlikeGrids) (by rfl) me_str)) (ma_cons (k := .full) (me_mk0 ca_InvalidOperation (SkE.pmk_own1 PySem.F.excBase_ValueError T.x_InvalidOperation T.m_InvalidOperation T.k_InvalidOperation (raises_own T.rb_InvalidOperation T.rt_InvalidOperation) (by rfl) me_str)) (ma_cons (k := .full) (me_mk0 ca_Nothing (SkE.pmk_own1 PySem.F.excBase_ValueError T.x_Nothing T.m_Nothing T.k_Nothing (raises_own T.rb_Nothing T.rt_Nothing) (by rfl) me_str)) (ma_cons (k := .full) (me_mk0 ca_InvalidCommand (SkE.pmk_own1 PySem.F.excBase_ValueError T.x_InvalidCommand T.m_InvalidCommand T.k_InvalidCommand (raises_own T.rb_InvalidCommand T.rt_InvalidCommand) (by rfl) me_str)) ma_nil))))))))))))
def fn_law_pick : FnD := runF [true, false] false 8
  (sSeq (sSub 0 (e2 addD (e2 ixD (eV 0) (eC (.int 2))) (eC (.int 1))) (eC (.int 2)))
  (sSeq (sIf (e2 gtD (e2 ixD (eV 0) (eC (.int 0))) (eC (.int 0)))
  (sSeq (sSet 2 (e2 modD (eB b_int (aCons (e2 ixD (eV 0) (eC (.int 0))) aNil)) (eV 1)))
  (sSeq (sSub 0 (e2 divD (eB b_int (aCons (e2 ixD (eV 0) (eC (.int 0))) aNil)) (eV 1)) (eC (.int 0)))
  (sRet (eV 2))))
  sNext)
  (sSeq (sPar [3, 4] (aCons (eB b_int (aCons (e2 ixD (eV 0) (eC (.int 1))) aNil)) (aCons (eB b_int (aCons (e2 ixD (eV 0) (eC (.int 2))) aNil)) aNil)))
  (sSeq (sSet 5 (e2 modD (eB b_int (aCons (e2 addD (e2 addD (e2 mulD (e2 modD (eV 3) (eC (.int 2147483629))) (eC (.int 48271))) (e2 mulD (eV 4) (eC (.int 69621)))) (eC (.int 12345))) aNil)) (eC (.int 2147483647))))
  (sSeq (sSet 6 (e2 modD (eB b_int (aCons (e2 addD (e2 mulD (eV 5) (eV 5)) (e2 mulD (eV 4) (eC (.int 40692)))) aNil)) (eC (.int 2147483587))))
  (sSeq (sSet 7 (e2 divD (eB b_int (aCons (e2 addD (e2 mulD (eV 5) (eC (.int 2147483587))) (eV 6)) aNil)) (eC (.int 32))))
  (sSeq (sIf (e2 gtD (eV 1) (e2 powD (eC (.int 10)) (eC (.int 15))))
  (sSet 7 (e2 addD (e2 powD (eV 7) (eC (.int 8))) (eV 6)))
  sNext)
  (sRet (e2 modD (eB b_int (aCons (eV 7) aNil)) (eV 1))))))))))
theorem ok_law_pick {Z : Ads} (T : Top K mg Z) : Lk.FnG Z.P_ w K mg base 1 Z.f_law_pick Z.d_law_pick ["bag", "many"] (spM0 (ga K Z) [true, false] .full fn_law_pick) := by
  refine Lk.okG T.F_law_pick sclaw_pick (fun vs H Q E h => spM.len h) (fun cdv A outer s H vs Q E hgd hr h => ?_)
  refine ⟨_, ?_, fn_body0 (cs := [0]) (c' := [0]) h rfl rfl (by decide) (fun z => by cases z)⟩
  exact (mss_cons (c1 := [0]) (ms_sub (i := 0) (pv 0) me_int (me_op o_add so_add (me_ixR o_ix so_ix (me_cv (i := 0) (pv 0)) (me_root me_int) (fun _ _ => rfl)) (me_root me_int)) (fun he hk => ps_asg he (pg_sub (pv 0) hk set_list)))
      (mss_cons (c1 := [0]) (ms_if (cs' := [0]) (mt_cmp op_gt so_gt (me_ixR o_ix so_ix (me_cv (i := 0) (pv 0)) (me_root me_int) (fun _ _ => rfl)) (me_root me_int) (nomark _))
        (mss_cons (c1 := [0]) (ms_set (i := 2) sclaw_pick.nd rfl (.inl rfl) (me_op op_mod so_mod (me_callTy call_int1 so_int1 (by rfl) T.z_int (by decide +kernel) (ma_consR (me_root (me_ixR o_ix so_ix (me_cv (i := 0) (pv 0)) (me_root me_int) (fun _ _ => rfl))) ma_nil)) (me_root (me_v (i := 1) (pv 1)))))
      (mss_cons (c1 := [0]) (ms_sub (i := 0) (pv 0) me_int (me_op op_fdivW so_div (me_callTy call_int1 so_int1 (by rfl) T.z_int (by decide +kernel) (ma_consR (me_root (me_ixR o_ix so_ix (me_cv (i := 0) (pv 0)) (me_root me_int) (fun _ _ => rfl))) ma_nil)) (me_root (me_v (i := 1) (pv 1)))) (fun he hk => ps_asg he (pg_sub (pv 0) hk set_list)))
      (mss_one (ms_ret (me_v (i := 2) (pv 2))))))
        mss_nil)
      (mss_cons (c1 := [0]) (ms_par2 (i := 3) (j := 4) (cs' := [0]) (ks := [.full, .full]) (fun _ h => ps_par (i := 3) (j := 4) (by rfl) sclaw_pick.nd rfl rfl (by decide) rfl rfl h (by rfl)) (ma_cons (k := .full) (me_callTy call_int1 so_int1 (by rfl) T.z_int (by decide +kernel) (ma_consR (me_root (me_ixR o_ix so_ix (me_cv (i := 0) (pv 0)) (me_root me_int) (fun _ _ => rfl))) ma_nil)) (ma_cons (k := .full) (me_callTy call_int1 so_int1 (by rfl) T.z_int (by decide +kernel) (ma_consR (me_root (me_ixR o_ix so_ix (me_cv (i := 0) (pv 0)) (me_root me_int) (fun _ _ => rfl))) ma_nil)) ma_nil)))
      (mss_cons (c1 := [0]) (ms_set (i := 5) sclaw_pick.nd rfl (.inl rfl) (me_op op_mod so_mod (me_callTy call_int1 so_int1 (by rfl) T.z_int (by decide +kernel) (ma_consR (me_root (me_op o_add so_add (me_op o_add so_add (me_op o_mul so_mul (me_op op_mod so_mod (me_v (i := 3) (pv 3)) (me_root me_int)) (me_root me_int)) (me_root (me_op o_mul so_mul (me_v (i := 4) (pv 4)) (me_root me_int)))) (me_root me_int))) ma_nil)) (me_root me_int)))
      (mss_cons (c1 := [0]) (ms_set (i := 6) sclaw_pick.nd rfl (.inl rfl) (me_op op_mod so_mod (me_callTy call_int1 so_int1 (by rfl) T.z_int (by decide +kernel) (ma_consR (me_root (me_op o_add so_add (me_op o_mul so_mul (me_v (i := 5) (pv 5)) (me_root (me_v (i := 5) (pv 5)))) (me_root (me_op o_mul so_mul (me_v (i := 4) (pv 4)) (me_root me_int))))) ma_nil)) (me_root me_int)))
      (mss_cons (c1 := [0]) (ms_set (i := 7) sclaw_pick.nd rfl (.inl rfl) (me_op op_fdivW so_div (me_callTy call_int1 so_int1 (by rfl) T.z_int (by decide +kernel) (ma_consR (me_root (me_op o_add so_add (me_op o_mul so_mul (me_v (i := 5) (pv 5)) (me_root me_int)) (me_root (me_v (i := 6) (pv 6))))) ma_nil)) (me_root me_int)))
      (mss_cons (c1 := [0]) (ms_if (cs' := [0]) (mt_cmp op_gt so_gt (me_v (i := 1) (pv 1)) (me_root (me_op Lk.op_powB so_pow me_int (me_root me_int))) (nomark _))
        (mss_one (ms_set (i := 7) sclaw_pick.nd rfl (.inl rfl) (me_op o_add so_add (me_op Lk.op_powB so_pow (me_v (i := 7) (pv 7)) (me_root me_int)) (me_root (me_v (i := 6) (pv 6))))))
        mss_nil)
      (mss_one (ms_ret (me_op op_mod so_mod (me_callTy call_int1 so_int1 (by rfl) T.z_int (by decide +kernel) (ma_consR (me_root (me_v (i := 7) (pv 7))) ma_nil)) (me_root (me_v (i := 1) (pv 1)))))))))))))
def fn_law : FnD := runF [false] false 10
  (sSeq (sSet 1 (eCall fn_law_bag [.full] (aCons (e2 ixD (e2 addSD (eV 0) (eLst (aCons (eC (.int 0)) aNil))) (eC (.int 0))) aNil)))
  (sSeq (sFor (.nm 2) (iA k_rng1 (aCons (eC (.int 4)) aNil))
  (sSeq (sSet 3 (eCall fn_law_pick [.cel 1, .full] (aCons (eCel 1) (aCons (e2 ixD (eLst (aCons (eC (.int 9)) (aCons (e2 powD (eC (.int 10)) (eC (.int 60))) aNil))) (e2 modD (eV 2) (eC (.int 2)))) aNil))))
  (sSeq (sSet 4 (eCall fn_law_made [.full] (aCons (eV 3) aNil)))
  (sSeq (sFor (.tp [(.nm 5), (.nm 6)]) (iA k_enum (aCons (eV 4) aNil))
  (sSeq (sIf (eOr (eNot (eB (b_isx xtab) (aCons (eV 6) (aCons (eC (.cls "LaceError")) aNil)))) (eNot (eB (b_isx xtab) (aCons (eV 6) (aCons (eC (.ty "ValueError")) aNil)))))
  (sRet (eC (.bl false)))
  sNext)
  (sIf (e2 neD (eCall fn_law_classes [.full] (aCons (eV 6) aNil)) (eComp [7] (.nm 7) none (e2 eqD (eV 7) (eV 5)) (iA k_rng1 (aCons (eB b_len (aCons (eV 4) aNil)) aNil))))
  (sRet (eC (.bl false)))
  sNext)))
  (sIf (e2 neD (eLst (aCons (eXf ["InvalidBoxes", "InvalidLoad"] "item" (e2 ixD (eV 4) (eC (.int 0)))) (aCons (eXf ["InvalidBoxes", "InvalidLoad"] "item" (e2 ixD (eV 4) (eC (.int 1)))) (aCons (eXf ["InvalidText"] "part" (e2 ixD (eV 4) (eC (.int 2)))) (aCons (eXf ["TooMany"] "limit" (e2 ixD (eV 4) (eC (.int 3)))) (aCons (eXf ["OverBudget"] "total" (e2 ixD (eV 4) (eC (.int 4)))) aNil)))))) (e2 mulD (eLst (aCons (eV 3) aNil)) (eC (.int 5))))
  (sRet (eC (.bl false)))
  sNext)))))
  (sSeq (sSet 8 (eMk0 "LaceError" (eC (.str "x"))))
  (sSeq (sSet 9 (eLst (aCons (eXf ["InvalidBoxes", "InvalidLoad"] "item" (eMkX "InvalidLoad" "not a valid load, item: " "item" (eC .non))) (aCons (eXf ["InvalidBoxes", "InvalidLoad"] "item" (eMkX "InvalidBoxes" "not a valid list of boxes, item: " "item" (eC .non))) (aCons (eXf ["InvalidText"] "part" (eMkX "InvalidText" "not the text of a load, part: " "part" (eC .non))) aNil)))))
  (sRet (eAnd (e2 eqD (eV 9) (e2 mulD (eLst (aCons (eC .non) aNil)) (eC (.int 3)))) (eAnd (e2 notinBD (eC (.bl true)) (eCall fn_law_classes [.full] (aCons (eV 8) aNil))) (eB (b_isx xtab) (aCons (eV 8) (aCons (eC (.ty "ValueError")) aNil))))))))))
theorem ok_law {Z : Ads} (T : Top K mg Z) : Lk.FnG Z.P_ w K mg base 4 Z.f_law Z.d_law ["script"] (spM0 (ga K Z) [false] .full fn_law) := by
  have G_law_bag : Lk.FnG Z.P_ w K mg base 3 Z.f_law_bag Z.d_law_bag ["cell"] (spM0 (ga K Z) [false] .own fn_law_bag) := (ok_law_bag T).mono (by decide)
  have G_law_classes : Lk.FnG Z.P_ w K mg base 3 Z.f_law_classes Z.d_law_classes ["one"] (spM0 (ga K Z) [false] .full fn_law_classes) := (ok_law_classes T).mono (by decide)
  have G_law_made : Lk.FnG Z.P_ w K mg base 3 Z.f_law_made Z.d_law_made ["number"] (spM0 (ga K Z) [false] .full fn_law_made) := (ok_law_made T).mono (by decide)
  have G_law_pick : Lk.FnG Z.P_ w K mg base 3 Z.f_law_pick Z.d_law_pick ["bag", "many"] (spM0 (ga K Z) [true, false] .full fn_law_pick) := (ok_law_pick T).mono (by decide)
  refine Lk.okG T.F_law sclaw (fun vs H Q E h => spM.len h) (fun cdv A outer s H vs Q E hgd hr h => ?_)
  refine ⟨_, ?_, fn_body0 (cs := []) (c' := []) h rfl rfl (by decide) (fun z => by cases z)⟩
  exact (mss_cons (c1 := [1]) (ms_own (cs' := [1]) (i := 1) sclaw.nd rfl (.inl rfl) (me_callG (ks := [.full]) (F := fn_law_bag) (m := .own) G_law_bag hgd (hr.mono (by decide)) (by rfl) T.m_law_bag T.F_law_bag.kp T.b_law_bag (ma_cons (k := .full) (me_ix o_ix so_ix (me_op op_catS so_addS (me_v (i := 0) (pv 0)) (me_ownR (me_lst (ks := [.full]) (ma_cons (k := .full) me_int ma_nil)))) (me_root me_int) (fun _ _ => rfl)) ma_nil)))
      (mss_cons (c1 := [1]) (ms_for PassesOwn.never rfl (mi_rng1 (by rfl) T.z_range (ma_cons (k := .full) me_int ma_nil)) (mg_nm (pg_name (i := 2) sclaw.nd rfl (.inl rfl)))
        (mss_cons (c1 := [1]) (ms_set (i := 3) sclaw.nd rfl (.inl rfl) (me_callG (ks := [.cel 1, .full]) (F := fn_law_pick) (m := .full) G_law_pick hgd (hr.mono (by decide)) (by rfl) T.m_law_pick T.F_law_pick.kp T.b_law_pick (ma_cel (i := 1) (pv 1) (ma_cons (k := .full) (me_ix o_ix so_ix (me_own (me_lst (ks := [.full, .full]) (ma_cons (k := .full) me_int (ma_cons (k := .full) (me_op Lk.op_powB so_pow me_int (me_root me_int)) ma_nil)))) (me_root (me_op op_mod so_mod (me_v (i := 2) (pv 2)) (me_root me_int))) (fun _ _ => rfl)) ma_nil))))
      (mss_cons (c1 := [1]) (ms_set (i := 4) sclaw.nd rfl (.inl rfl) (me_callG (ks := [.full]) (F := fn_law_made) (m := .full) G_law_made hgd (hr.mono (by decide)) (by rfl) T.m_law_made T.F_law_made.kp T.b_law_made (ma_cons (k := .full) (me_v (i := 3) (pv 3)) ma_nil)))
      (mss_cons (c1 := [1]) (ms_for PassesOwn.never rfl (mi_enum (by rfl) T.z_enumerate (ma_cons (k := .full) (me_v (i := 4) (pv 4)) ma_nil)) (mg_tp (by rfl) (by rfl) (mgs_cons (mg_nm (pg_name (i := 5) sclaw.nd rfl (.inr rfl))) (mgs_cons (mg_nm (pg_name (i := 6) sclaw.nd rfl (.inl rfl))) mgs_nil)) rfl)
        (mss_cons (c1 := [1]) (ms_if (cs' := [1]) (PW.pt (mw_or (mt_not (mt_val (me_callB o_isx (so_isx (xtab_ok T)) (by rfl) T.z_isinstance (by decide +kernel) (ma_cons (k := .full) (me_v (i := 6) (pv 6)) (ma_cons (k := .full) (me_c (pe_glob (v := .ref Z.C_LaceError) (by rfl) T.m_LaceError rfl) (fun _ => dtc_LaceError)) ma_nil))))) (mw_or1 (mt_not (mt_val (me_callB o_isx (so_isx (xtab_ok T)) (by rfl) T.z_isinstance (by decide +kernel) (ma_cons (k := .full) (me_v (i := 6) (pv 6)) (ma_cons (k := .full) (me_c (pe_bltn (v := .ty "ValueError") (by rfl) T.z_ValueError (by decide +kernel) rfl) (fun _ => .ty "ValueError")) ma_nil))))))))
        (mss_one (ms_ret me_bl))
        mss_nil)
      (mss_one (ms_if (cs' := [1]) (mt_cmp (o_ne (Lk.hu_of' hr)) so_ne (me_callG (ks := [.full]) (F := fn_law_classes) (m := .full) G_law_classes hgd (hr.mono (by decide)) (by rfl) T.m_law_classes T.F_law_classes.kp T.b_law_classes (ma_cons (k := .full) (me_v (i := 6) (pv 6)) ma_nil)) (me_ownR (me_lc (own := [("j", 7)]) rfl sclaw.nd (mi_rng1 (by rfl) T.z_range (ma_cons (k := .full) (me_callB o_len so_len (by rfl) T.z_len (by decide +kernel) (ma_consR (me_root (me_v (i := 4) (pv 4))) ma_nil)) ma_nil)) (blkOk_by (own := [("j", 7)]) (N := ["script", "bag", "turn", "number", "made", "k", "one", "j", "base", "some"]) (sc := (defScope slaw)) (by decide +kernel)) (fun _ _ _ _ _ => (mg_nm (pg_name (i := 7) sclaw.nd rfl (.inl rfl)))) (fun _ _ _ _ _ => mts_nil) (fun _ _ _ _ _ => (me_cmp (o_eq (Lk.hu_of' hr)) so_eq (me_v (i := 7) (pv 7)) (me_root (me_v (i := 5) (pv 5))) (nomark _))))) (nomark _))
        (mss_one (ms_ret me_bl))
        mss_nil))))
      (mss_one (ms_if (cs' := [1]) (mt_cmp (o_ne (Lk.hu_of' hr)) so_ne (me_own (me_lst (ks := [.full, .full, .full, .full, .full]) (ma_cons (k := .full) (me_xf (me_root (me_ix o_ix so_ix (me_v (i := 4) (pv 4)) (me_root me_int) (fun _ _ => rfl))) (xf_item T)) (ma_cons (k := .full) (me_xf (me_root (me_ix o_ix so_ix (me_v (i := 4) (pv 4)) (me_root me_int) (fun _ _ => rfl))) (xf_item T)) (ma_cons (k := .full) (me_xf (me_root (me_ix o_ix so_ix (me_v (i := 4) (pv 4)) (me_root me_int) (fun _ _ => rfl))) (xf_part T)) (ma_cons (k := .full) (me_xf (me_root (me_ix o_ix so_ix (me_v (i := 4) (pv 4)) (me_root me_int) (fun _ _ => rfl))) (xf_limit T)) (ma_cons (k := .full) (me_xf (me_root (me_ix o_ix so_ix (me_v (i := 4) (pv 4)) (me_root me_int) (fun _ _ => rfl))) (xf_total T)) ma_nil))))))) (me_root (me_op o_mul so_mul (me_own (me_lst (ks := [.full]) (ma_cons (k := .full) (me_v (i := 3) (pv 3)) ma_nil))) (me_root me_int))) (nomark _))
        (mss_one (ms_ret me_bl))
        mss_nil))))))
      (mss_cons (c1 := [1]) (ms_set (i := 8) sclaw.nd rfl (.inl rfl) (me_mk0 ca_LaceError (SkE.pmk_own1 PySem.F.excBase_ValueError T.x_LaceError T.m_LaceError T.k_LaceError (raises_own T.rb_LaceError T.rt_LaceError) (by rfl) me_str)))
      (mss_cons (c1 := [1]) (ms_set (i := 9) sclaw.nd rfl (.inl rfl) (me_own (me_lst (ks := [.full, .full, .full]) (ma_cons (k := .full) (me_xf (me_root (me_mkX ca_InvalidLoad T.ox_InvalidLoad.T T.ox_InvalidLoad.iC T.ox_InvalidLoad.tI (T.ox_InvalidLoad.F (k := 0) T.z_super) (hr.mono (by decide)) T.ox_InvalidLoad.b (by rfl) T.m_InvalidLoad me_non)) (xf_item T)) (ma_cons (k := .full) (me_xf (me_root (me_mkX ca_InvalidBoxes T.ox_InvalidBoxes.T T.ox_InvalidBoxes.iC T.ox_InvalidBoxes.tI (T.ox_InvalidBoxes.F (k := 0) T.z_super) (hr.mono (by decide)) T.ox_InvalidBoxes.b (by rfl) T.m_InvalidBoxes me_non)) (xf_item T)) (ma_cons (k := .full) (me_xf (me_root (me_mkX ca_InvalidText T.ox_InvalidText.T T.ox_InvalidText.iC T.ox_InvalidText.tI (T.ox_InvalidText.F (k := 0) T.z_super) (hr.mono (by decide)) T.ox_InvalidText.b (by rfl) T.m_InvalidText me_non)) (xf_part T)) ma_nil))))))
      (mss_one (ms_ret (me_and (me_cmp (o_eq (Lk.hu_of' hr)) so_eq (me_v (i := 9) (pv 9)) (me_root (me_op o_mul so_mul (me_own (me_lst (ks := [.full]) (ma_cons (k := .full) me_non ma_nil))) (me_root me_int))) (nomark _)) (me_and (me_cmp o_notin so_notinB me_bl (me_root (me_callG (ks := [.full]) (F := fn_law_classes) (m := .full) G_law_classes hgd (hr.mono (by decide)) (by rfl) T.m_law_classes T.F_law_classes.kp T.b_law_classes (ma_cons (k := .full) (me_v (i := 8) (pv 8)) ma_nil))) (by rfl)) (me_one (me_callB o_isx (so_isx (xtab_ok T)) (by rfl) T.z_isinstance (by decide +kernel) (ma_cons (k := .full) (me_v (i := 8) (pv 8)) (ma_cons (k := .full) (me_c (pe_bltn (v := .ty "ValueError") (by rfl) T.z_ValueError (by decide +kernel) rfl) (fun _ => .ty "ValueError")) ma_nil))))))))))))
end
noncomputable section
open Lk
set_option linter.unusedSimpArgs false
set_option linter.unusedVariables false
set_option maxRecDepth 20000
set_option maxHeartbeats 4000000
section
theorem lgI {z : Int} (h : -1606938044258990275541962092341162602522202993782792835301376 ≤ z ∧ z ≤ 1606938044258990275541962092341162602522202993782792835301376) : z.natAbs.log2 < 201 := PySem.Flt.log2_lt_of (by decide) (by
  have e : (2 : Nat) ^ 201 = 3213876088517980551083924184682325205044405987565585670602752 := by decide +kernel
  rw [e]
  omega)
theorem mulR {a b : Int} (h : -18446744073709551616 < b ∧ b < 18446744073709551616 := by decide) : mulC a b := .inr (.inl h)
theorem mulL {a b : Int} (h : -18446744073709551616 < a ∧ a < 18446744073709551616) : mulC a b := .inl h
theorem pick_ok {a c k m : Int} (ha : 0 ≤ a) (h1 : 1 ≤ m) (h2 : m ≤ 1606938044258990275541962092341162602522202993782792835301376) :
    OkF (fn_law_pick [.lst [.int a, .int c, .int k], .int m]) (fun d ds => d = .int (pickV a c k m.toNat) ∧ ds = [.lst [.int (a / m), .int c, .int (k + 1)], .int m]) fun _ _ => False := by
  obtain ⟨m, rfl⟩ := Int.eq_ofNat_of_zero_le (show 0 ≤ m by omega)
  rw [Int.toNat_natCast]
  have e3 : ((m : Int)).natAbs.log2 < 201 := lgI ⟨by omega, by omega⟩
  unfold fn_law_pick
  simp (dsimp := false) only [↓okE_Js0, ↓okE_Js, okJ_str, ↓okS_Raise1, ↓okS_RaiseX, ↓okE_Mk0, ↓okE_MkX, addSD_slst, okOx_non, okOx_int, okXf_exc, ↓okE_Xf, ↓okE_Dic, ↓okE_Dead, ↓okS_TryAs, ↓tryK_nx, ↓tryK_rt, isD_exc, ↓okE_Dit, ↓okE_Dii, ↓okE_Disp1, ↓okS_Dput, ↓okE_Dget2, ↓okE_ok, ↓okE_ex, ↓okA_ok, ↓okA_ex, ↓okS_some, okD_some, okN_some, okL_some, okG_some, ↓okE_bind, ↓okE_aBind, ↓okS_bind, ↓okS_aBind, ↓okE_lift, ↓okE_V, ↓okE_C, ↓okE_1, ↓okE_2, ↓okA_nil, ↓okA_cons, ↓okE_B, ↓okE_Tup, ↓okE_Lst, tE2_bl, ↓okE_If, ↓okE_And, ↓okE_Or, nE_bl, ↓okE_Not, okB_some, ↓okE_Tru, cE_bl, ↓okE_Chain, ↓okE_Chain3, ↓okE_callR, ↓okE_Call, okI_ins, ↓okE_Prop, ↓okE_Meth, ↓okE_Make, okFs_ins, ↓okE_Fld, okT_str, ↓okE_Txt, ↓okE_Cel, okRS_str, ↓okE_RevS, ↓okE_RevL, ↓okE_RevT, tupRev_tup, rev_two, bitsD_int, b_gcd_int, b_comb_ok, b_tuple_tup, b_tuple_lst, b_str_str, b_str_int, addD_lst, addD_tup, catD_lst, repD_lst, mulD_lst, k_zip_lst, k_rev_lst, b_list_lst, b_list_tup, okSl_nn, okSl_in, okSl_ni, okSl_ii, ↓okE_Sl, ↓okE_No, okBd_int, ↓okE_Bd, ↓okE_iL, ↓okE_iT, ↓okE_iS, ↓okE_iA, okC_lst, ↓okE_Comp, okMu_some, ↓okE_Mut, ↓seqK_nx, ↓seqK_rt, ↓seqK_ex, ↓seqK_bk, ↓seqK_ct, ↓okS_Seq, ↓okS_Next, ↓okS_Dead, ↓okS_Brk, ↓okS_Ct, ↓okS_RetN, ↓okS_Raise, ↓okS_Ret, ↓okS_Expr, ↓okS_Set, ↓okS_Par, ↓okS_Aug, ↓okS_Asg, ↓okS_If, okX_some, okZ_int, ↓okS_Sub, okFp_ins, ↓okS_Fld, ↓retK_nx, ↓retK_rt, ↓retK_ex, ↓okF_run, okF_val, okF_exc, ↓lpK_nx, ↓lpK_ct, ↓lpK_bk, ↓lpK_rt, ↓lpK_ex, ↓okS_For, List.getElem?_cons_zero, List.getElem?_cons_succ, List.set_cons_zero, List.set_cons_succ, List.map_cons, List.map_nil, List.length_cons, List.length_nil, List.replicate_succ, List.replicate_zero, List.cons_append, List.nil_append, Option.join_some, Option.getD_some, Option.bind_some, Option.map_some, stD_cons, stD_nil, tgtD_nm, tgtD_tp, tgtsD_nil, tgtsD_cons, argD_full, argD_own, argD_root, argD_cel, argD_nil, putC_full, putC_own, putC_root, putC_cel, putC_nil, outs_t, outs_f, outs_nil, subD_int, addD_int, subI_int, addI_int, mulD_ok, modD_ok, divD_ok, pow1018, pow1015, powD_ok, shlD_ok, shrD_ok, addD_str, mulD_str, b_sum_2, b_len_str, b_len_lst, b_len_tup, k_enumT_str, k_enum_lst, okMu_app, okMu_ext, okL_rng1, okL_rng2, andD_int, xorD_int, negD_int, ltD_int, leD_int, gtD_int, geD_int, eqD_int, eqD_str, eqD_bl, neD_int, neD_str, neD_bl, ixL_0, ixL_1, ixL_2, ixL_3, ixT_0, ixT_1, ixT_2, ixT_3, ixN_0, ixN_1, ixN_2, ixN_3, isD_non, isntD_non, isN, b_int_int, b_int_bl, b_max2_int, b_min2_int, b_abs_int, m_count_str, listD_lst, listD_slst, tupD, strD, decide_eq_true_eq, decide_eq_false_iff_not, decide_true, decide_false, eq_self, and_true, true_and, if_true, if_false, Bool.false_eq_true, ↓reduceIte, Nat.reduceAdd, Nat.reduceSub, Nat.reduceLT, ite_true, ite_false, Bool.not_true, Bool.not_false, Int.toNat_natCast, Int.reduceLT, Int.reduceLE, Int.reduceToNat, Int.reduceMul, Int.reduceAdd, Int.reduceSub, Int.reduceEq, Nat.reduceLeDiff, Nat.reduceMul, List.lookup_cons_self]
  have hm : (0 : Int) < (m : Int) := by omega
  split
  · rename_i h
    refine ⟨hm, ⟨hm, by omega⟩, ?_⟩
    unfold pickV
    rw [if_pos h, Int.fmod_eq_emod_of_nonneg _ (by omega)]
  · rename_i h
    have a0 : a = 0 := by omega
    subst a0
    have z : (0 : Int) / (m : Int) = 0 := Int.zero_ediv _
    have fF : (c % 2147483629 * 48271 + (k + 1) * 69621 + 12345) % 2147483647 = mixF c (k + 1) := rfl
    rw [fF]
    have fS : (mixF c (k + 1) * mixF c (k + 1) + (k + 1) * 40692) % 2147483587 = mixS c (k + 1) := rfl
    rw [fS]
    have fD : (mixF c (k + 1) * 2147483587 + mixS c (k + 1)) / 32 = mixD c (k + 1) := rfl
    rw [fD]
    have b1 := mixF_b c (k + 1)
    have b2 := mixS_b c (k + 1)
    have b3 := mixD_b c (k + 1)
    have e5 : (mixD c (k + 1)).natAbs.log2 < 201 := lgI ⟨by omega, by omega⟩
    refine ⟨mulR, mulR, mulL ⟨by omega, by omega⟩, mulR, mulR, ⟨by decide, by decide +kernel⟩, ?_⟩
    rw [z]
    unfold pickV
    rw [if_neg h, Int.fmod_eq_emod_of_nonneg _ (by omega)]
    split
    · exact ⟨⟨by decide, by omega⟩, hm, rfl, rfl⟩
    · exact ⟨hm, rfl, rfl⟩
theorem pickV_b {a c k : Int} {m : Nat} (ha : 0 ≤ a) (h1 : 1 ≤ m) : 0 ≤ pickV a c k m ∧ pickV a c k m < m := by
  unfold pickV
  have hm : (0 : Int) < (m : Int) := by omega
  split
  · rw [Int.fmod_eq_emod_of_nonneg _ (by omega)]
    exact ⟨Int.emod_nonneg _ (by omega), Int.emod_lt_of_pos _ hm⟩
  · rw [Int.fmod_eq_emod_of_nonneg _ (by omega)]
    exact ⟨Int.emod_nonneg _ (by omega), Int.emod_lt_of_pos _ hm⟩
/-- a bag -/
def Bg (d : D) : Prop := ∃ a c k : Int, d = .lst [.int a, .int c, .int k] ∧ 0 ≤ a
theorem pick_bg {d : D} {m : Int} {QF XF : D → List D → Prop} (B : Bg d) (h1 : 1 ≤ m) (h2 : m ≤ 1606938044258990275541962092341162602522202993782792835301376) (q : ∀ r : Nat, (r : Int) < m → ∀ d', Bg d' → QF (.int r) [d', .int m]) : OkF (fn_law_pick [d, .int m]) QF XF := by
  obtain ⟨a, c, k, rfl, ha⟩ := B
  refine okF_ok (pick_ok ha h1 h2) XF ?_
  rintro d ds ⟨rfl, rfl⟩
  have := pickV_b (a := a) (c := c) (k := k) (m := m.toNat) ha (by omega)
  obtain ⟨r, hr⟩ := Int.eq_ofNat_of_zero_le this.1
  rw [hr]
  exact q r (by omega) _ ⟨_, _, _, rfl, Int.ediv_nonneg ha (by omega)⟩
theorem bag_ok {c : Int} {QF XF : D → List D → Prop} (q : ∀ d, Bg d → QF d [.int c]) : OkF (fn_law_bag [.int c]) QF XF := by
  unfold fn_law_bag
  simp (dsimp := false) only [↓okE_Js0, ↓okE_Js, okJ_str, ↓okS_Raise1, ↓okS_RaiseX, ↓okE_Mk0, ↓okE_MkX, addSD_slst, okOx_non, okOx_int, okXf_exc, ↓okE_Xf, ↓okE_Dic, ↓okE_Dead, ↓okS_TryAs, ↓tryK_nx, ↓tryK_rt, isD_exc, ↓okE_Dit, ↓okE_Dii, ↓okE_Disp1, ↓okS_Dput, ↓okE_Dget2, ↓okE_ok, ↓okE_ex, ↓okA_ok, ↓okA_ex, ↓okS_some, okD_some, okN_some, okL_some, okG_some, ↓okE_bind, ↓okE_aBind, ↓okS_bind, ↓okS_aBind, ↓okE_lift, ↓okE_V, ↓okE_C, ↓okE_1, ↓okE_2, ↓okA_nil, ↓okA_cons, ↓okE_B, ↓okE_Tup, ↓okE_Lst, tE2_bl, ↓okE_If, ↓okE_And, ↓okE_Or, nE_bl, ↓okE_Not, okB_some, ↓okE_Tru, cE_bl, ↓okE_Chain, ↓okE_Chain3, ↓okE_callR, ↓okE_Call, okI_ins, ↓okE_Prop, ↓okE_Meth, ↓okE_Make, okFs_ins, ↓okE_Fld, okT_str, ↓okE_Txt, ↓okE_Cel, okRS_str, ↓okE_RevS, ↓okE_RevL, ↓okE_RevT, tupRev_tup, rev_two, bitsD_int, b_gcd_int, b_comb_ok, b_tuple_tup, b_tuple_lst, b_str_str, b_str_int, addD_lst, addD_tup, catD_lst, repD_lst, mulD_lst, k_zip_lst, k_rev_lst, b_list_lst, b_list_tup, okSl_nn, okSl_in, okSl_ni, okSl_ii, ↓okE_Sl, ↓okE_No, okBd_int, ↓okE_Bd, ↓okE_iL, ↓okE_iT, ↓okE_iS, ↓okE_iA, okC_lst, ↓okE_Comp, okMu_some, ↓okE_Mut, ↓seqK_nx, ↓seqK_rt, ↓seqK_ex, ↓seqK_bk, ↓seqK_ct, ↓okS_Seq, ↓okS_Next, ↓okS_Dead, ↓okS_Brk, ↓okS_Ct, ↓okS_RetN, ↓okS_Raise, ↓okS_Ret, ↓okS_Expr, ↓okS_Set, ↓okS_Par, ↓okS_Aug, ↓okS_Asg, ↓okS_If, okX_some, okZ_int, ↓okS_Sub, okFp_ins, ↓okS_Fld, ↓retK_nx, ↓retK_rt, ↓retK_ex, ↓okF_run, okF_val, okF_exc, ↓lpK_nx, ↓lpK_ct, ↓lpK_bk, ↓lpK_rt, ↓lpK_ex, ↓okS_For, List.getElem?_cons_zero, List.getElem?_cons_succ, List.set_cons_zero, List.set_cons_succ, List.map_cons, List.map_nil, List.length_cons, List.length_nil, List.replicate_succ, List.replicate_zero, List.cons_append, List.nil_append, Option.join_some, Option.getD_some, Option.bind_some, Option.map_some, stD_cons, stD_nil, tgtD_nm, tgtD_tp, tgtsD_nil, tgtsD_cons, argD_full, argD_own, argD_root, argD_cel, argD_nil, putC_full, putC_own, putC_root, putC_cel, putC_nil, outs_t, outs_f, outs_nil, subD_int, addD_int, subI_int, addI_int, mulD_ok, modD_ok, divD_ok, pow1018, pow1015, powD_ok, shlD_ok, shrD_ok, addD_str, mulD_str, b_sum_2, b_len_str, b_len_lst, b_len_tup, k_enumT_str, k_enum_lst, okMu_app, okMu_ext, okL_rng1, okL_rng2, andD_int, xorD_int, negD_int, ltD_int, leD_int, gtD_int, geD_int, eqD_int, eqD_str, eqD_bl, neD_int, neD_str, neD_bl, ixL_0, ixL_1, ixL_2, ixL_3, ixT_0, ixT_1, ixT_2, ixT_3, ixN_0, ixN_1, ixN_2, ixN_3, isD_non, isntD_non, isN, b_int_int, b_int_bl, b_max2_int, b_min2_int, b_abs_int, m_count_str, listD_lst, listD_slst, tupD, strD, decide_eq_true_eq, decide_eq_false_iff_not, decide_true, decide_false, eq_self, and_true, true_and, if_true, if_false, Bool.false_eq_true, ↓reduceIte, Nat.reduceAdd, Nat.reduceSub, Nat.reduceLT, ite_true, ite_false, Bool.not_true, Bool.not_false, Int.toNat_natCast, Int.reduceLT, Int.reduceLE, Int.reduceToNat, Int.reduceMul, Int.reduceAdd, Int.reduceSub, Int.reduceEq, Nat.reduceLeDiff, Nat.reduceMul, List.lookup_cons_self]
  refine q _ ⟨_, _, _, rfl, ?_⟩
  split <;> omega
end
section
theorem line_ok {n : Nat} (h : n ≤ 10000) : n ≤ sizeLine := Nat.le_trans h (by decide)
end
section
/-! a Layout -/
end
section
variable {QF XF : D → List D → Prop}
/-! parts -/
end
section
variable {QF XF : D → List D → Prop}
end
section
variable {QF XF : D → List D → Prop}
end
section
variable {QF XF : D → List D → Prop}
end
section
variable {QF XF : D → List D → Prop}
end
section
/-- plain data of moderate size -/
def PlE (k : Nat) (d : D) : Prop := ∃ n, Pl k n d
theorem ple_nat {k i : Nat} (h : i < 2 ^ 1000) : PlE k (.int (i : Nat)) := ⟨0, (pl_nat h).mono (Nat.zero_le _) (Nat.le_refl _)⟩
theorem ple_nil {k : Nat} : ∀ d ∈ ([] : List D), PlE k d := fun d h => absurd h List.not_mem_nil
theorem ple_cons {k : Nat} {d : D} {ds : List D} (h : PlE k d) (r : ∀ d ∈ ds, PlE k d) : ∀ e ∈ d :: ds, PlE k e := fun e he => by
  rcases List.mem_cons.mp he with rfl | he
  · exact h
  · exact r e he
theorem ple_all {k : Nat} : ∀ ds : List D, (∀ d ∈ ds, PlE k d) → ∃ n, ∀ d ∈ ds, Pl k n d
  | [], _ => ⟨0, fun d h => absurd h List.not_mem_nil⟩
  | d :: ds, h => by
    obtain ⟨n, h1⟩ := ple_all ds fun e he => h e (List.mem_cons_of_mem _ he)
    obtain ⟨m, h2⟩ := h d List.mem_cons_self
    refine ⟨n + m, fun e he => ?_⟩
    rcases List.mem_cons.mp he with rfl | he
    · exact h2.mono (Nat.le_refl _) (Nat.le_add_left _ _)
    · exact (h1 e he).mono (Nat.le_refl _) (Nat.le_add_right _ _)
theorem ple_lst {k : Nat} {ds : List D} (h : ∀ d ∈ ds, PlE k d) : PlE (k + 1) (.lst ds) := by
  obtain ⟨n, h1⟩ := ple_all ds h
  exact ⟨_, pl_lst h1⟩
theorem PlE.ne {k : Nat} {d : D} (h : PlE k d) (hk : k ≤ 8 := by decide) : neD d d = some (.bl false) := h.elim fun _ z => z.neD hk
end
section
variable {QF XF : D → List D → Prop}
theorem rng_nat (n : Nat) : rngL 0 n = (List.range n).map fun t : Nat => D.int (t : Int) := by
  unfold rngL
  refine List.map_congr_left fun i _ => ?_
  rw [Int.zero_add]
end
section
variable {QF XF : D → List D → Prop}
end
section
variable {QF XF : D → List D → Prop}
end
section
variable {QF XF : D → List D → Prop}
end
section
variable {QF XF : D → List D → Prop}
end
section
variable {QF XF : D → List D → Prop}
end
section
variable {QF XF : D → List D → Prop}
end
section
variable {QF XF : D → List D → Prop}
end
section
variable {QF XF : D → List D → Prop}
theorem pow_at {a b v : Int} (h : powC a b) (e : a ^ b.toNat = v) : powD (.int a) (.int b) = some (.int v) := by
  rw [powD_int, if_pos h, e]
theorem p10_60 : powD (.int 10) (.int 60) = some (.int 1000000000000000000000000000000000000000000000000000000000000) := pow_at ⟨by decide, by decide +kernel⟩ (by decide +kernel)
end
section
variable {QF XF : D → List D → Prop}
/-- the errors, in their order -/
def exN : List String := ["InvalidLoad", "InvalidBoxes", "InvalidText", "TooMany", "OverBudget", "InvalidWord", "InvalidLayout", "InvalidBits", "InvalidCell", "InvalidKey", "InvalidBox", "InvalidIndex", "InvalidNumber", "InvalidSize", "InvalidBudget", "UnlikeGrids", "InvalidOperation", "Nothing", "InvalidCommand"]
def exD (d : D) (k : Nat) : D := match k with
  | 0 => .exc "InvalidLoad" [("item", d)]
  | 1 => .exc "InvalidBoxes" [("item", d)]
  | 2 => .exc "InvalidText" [("part", d)]
  | 3 => .exc "TooMany" [("limit", d)]
  | 4 => .exc "OverBudget" [("total", d)]
  | k => .exc (exN.getD k "") []
def oneB (k : Nat) : D := .lst ((List.range 19).map fun j : Nat => .bl (decide (j = k)))
theorem classes_at {d : D} {k : Nat} (h : k < 19) : fn_law_classes [exD d k] = some (.ok (oneB k) [exD d k]) := by
  have hk : k = 0 ∨ k = 1 ∨ k = 2 ∨ k = 3 ∨ k = 4 ∨ k = 5 ∨ k = 6 ∨ k = 7 ∨ k = 8 ∨ k = 9 ∨ k = 10 ∨ k = 11 ∨ k = 12 ∨ k = 13 ∨ k = 14 ∨ k = 15 ∨ k = 16 ∨ k = 17 ∨ k = 18 := by omega
  rcases hk with rfl | rfl | rfl | rfl | rfl | rfl | rfl | rfl | rfl | rfl | rfl | rfl | rfl | rfl | rfl | rfl | rfl | rfl | rfl <;> kernel_rfl
theorem base_classes : fn_law_classes [.exc "LaceError" []] = some (.ok (.lst ((List.range 19).map fun _ => .bl false)) [.exc "LaceError" []]) := by kernel_rfl
theorem lace_at {d : D} {k : Nat} (h : k < 19) : b_isx xtab [exD d k, .cls "LaceError"] = some (.bl true) ∧ b_isx xtab [exD d k, .ty "ValueError"] = some (.bl true) := by
  have hk : k = 0 ∨ k = 1 ∨ k = 2 ∨ k = 3 ∨ k = 4 ∨ k = 5 ∨ k = 6 ∨ k = 7 ∨ k = 8 ∨ k = 9 ∨ k = 10 ∨ k = 11 ∨ k = 12 ∨ k = 13 ∨ k = 14 ∨ k = 15 ∨ k = 16 ∨ k = 17 ∨ k = 18 := by omega
  rcases hk with rfl | rfl | rfl | rfl | rfl | rfl | rfl | rfl | rfl | rfl | rfl | rfl | rfl | rfl | rfl | rfl | rfl | rfl | rfl <;> exact ⟨by kernel_rfl, by kernel_rfl⟩
theorem base_is : b_isx xtab [.exc "LaceError" [], .ty "ValueError"] = some (.bl true) := by kernel_rfl
theorem one_ne {k : Nat} (h : k < 19) : neD (oneB k) (oneB k) = some (.bl false) := by
  have hk : k = 0 ∨ k = 1 ∨ k = 2 ∨ k = 3 ∨ k = 4 ∨ k = 5 ∨ k = 6 ∨ k = 7 ∨ k = 8 ∨ k = 9 ∨ k = 10 ∨ k = 11 ∨ k = 12 ∨ k = 13 ∨ k = 14 ∨ k = 15 ∨ k = 16 ∨ k = 17 ∨ k = 18 := by omega
  rcases hk with rfl | rfl | rfl | rfl | rfl | rfl | rfl | rfl | rfl | rfl | rfl | rfl | rfl | rfl | rfl | rfl | rfl | rfl | rfl <;> kernel_rfl
theorem sh_lt {t : Str} {i : Nat} (ht : t.length ≤ 100) (h : i < 10 ^ 60) : (Lk.shownO t (.int (i : Nat))).isSome = true := by
  have e1 := PySem.int_text_length_le10 (a := (i : Int)) (k := 60) (by decide) (by rw [Int.natAbs_natCast]; exact h)
  have lg : ((i : Nat) : Int).natAbs.log2 < 1920 := PySem.Flt.log2_lt_of (by decide) (by rw [Int.natAbs_natCast]; exact Nat.lt_trans h (by decide +kernel))
  show Option.isSome (if ((i : Nat) : Int).natAbs.log2 < 1920 ∧ (Str.empty ++ t ++ (toString ((i : Nat) : Int) : Str)).length ≤ sizeLine then some (Str.empty ++ t ++ (toString ((i : Nat) : Int) : Str)) else none) = true
  rw [if_pos ⟨lg, by
    rw [strLen_append, strLen_append]
    have e2 : (Str.ofString (toString (i : Int))).length = (toString (i : Int)).length := PySem.ofString_length _
    have e3 : Str.empty.length = 0 := rfl
    rw [sizeLine_eq]
    omega⟩]
  rfl
theorem sh_non {t : Str} (ht : t.length ≤ 100) : (Lk.shownO t .non).isSome = true := by
  show Option.isSome (if (Str.empty ++ t ++ ("None" : Str)).length ≤ sizeLine then some (Str.empty ++ t ++ ("None" : Str)) else none) = true
  rw [if_pos (by
    rw [strLen_append, strLen_append]
    have e2 : ("None" : Str).length = 4 := by decide +kernel
    have e3 : Str.empty.length = 0 := rfl
    rw [sizeLine_eq]
    omega)]
  rfl
theorem made_eq {i : Nat} (h : i < 10 ^ 60) : fn_law_made [.int (i : Nat)] = some (.ok (.lst ((List.range 19).map (exD (.int (i : Nat))))) [.int (i : Nat)]) := eqF (by
  have s1 := sh_lt (t := "not a valid load, item: ") (by decide +kernel) h
  have s2 := sh_lt (t := "not a valid list of boxes, item: ") (by decide +kernel) h
  have s3 := sh_lt (t := "not the text of a load, part: ") (by decide +kernel) h
  have s4 := sh_lt (t := "no more items than ") (by decide +kernel) h
  have s5 := sh_lt (t := "above the budget, runs: ") (by decide +kernel) h
  unfold fn_law_made
  simp (dsimp := false) only [↓okE_Js0, ↓okE_Js, okJ_str, ↓okS_Raise1, ↓okS_RaiseX, ↓okE_Mk0, ↓okE_MkX, addSD_slst, okOx_non, okOx_int, okXf_exc, ↓okE_Xf, ↓okE_Dic, ↓okE_Dead, ↓okS_TryAs, ↓tryK_nx, ↓tryK_rt, isD_exc, ↓okE_Dit, ↓okE_Dii, ↓okE_Disp1, ↓okS_Dput, ↓okE_Dget2, ↓okE_ok, ↓okE_ex, ↓okA_ok, ↓okA_ex, ↓okS_some, okD_some, okN_some, okL_some, okG_some, ↓okE_bind, ↓okE_aBind, ↓okS_bind, ↓okS_aBind, ↓okE_lift, ↓okE_V, ↓okE_C, ↓okE_1, ↓okE_2, ↓okA_nil, ↓okA_cons, ↓okE_B, ↓okE_Tup, ↓okE_Lst, tE2_bl, ↓okE_If, ↓okE_And, ↓okE_Or, nE_bl, ↓okE_Not, okB_some, ↓okE_Tru, cE_bl, ↓okE_Chain, ↓okE_Chain3, ↓okE_callR, ↓okE_Call, okI_ins, ↓okE_Prop, ↓okE_Meth, ↓okE_Make, okFs_ins, ↓okE_Fld, okT_str, ↓okE_Txt, ↓okE_Cel, okRS_str, ↓okE_RevS, ↓okE_RevL, ↓okE_RevT, tupRev_tup, rev_two, bitsD_int, b_gcd_int, b_comb_ok, b_tuple_tup, b_tuple_lst, b_str_str, b_str_int, addD_lst, addD_tup, catD_lst, repD_lst, mulD_lst, k_zip_lst, k_rev_lst, b_list_lst, b_list_tup, okSl_nn, okSl_in, okSl_ni, okSl_ii, ↓okE_Sl, ↓okE_No, okBd_int, ↓okE_Bd, ↓okE_iL, ↓okE_iT, ↓okE_iS, ↓okE_iA, okC_lst, ↓okE_Comp, okMu_some, ↓okE_Mut, ↓seqK_nx, ↓seqK_rt, ↓seqK_ex, ↓seqK_bk, ↓seqK_ct, ↓okS_Seq, ↓okS_Next, ↓okS_Dead, ↓okS_Brk, ↓okS_Ct, ↓okS_RetN, ↓okS_Raise, ↓okS_Ret, ↓okS_Expr, ↓okS_Set, ↓okS_Par, ↓okS_Aug, ↓okS_Asg, ↓okS_If, okX_some, okZ_int, ↓okS_Sub, okFp_ins, ↓okS_Fld, ↓retK_nx, ↓retK_rt, ↓retK_ex, ↓okF_run, okF_val, okF_exc, ↓lpK_nx, ↓lpK_ct, ↓lpK_bk, ↓lpK_rt, ↓lpK_ex, ↓okS_For, List.getElem?_cons_zero, List.getElem?_cons_succ, List.set_cons_zero, List.set_cons_succ, List.map_cons, List.map_nil, List.length_cons, List.length_nil, List.replicate_succ, List.replicate_zero, List.cons_append, List.nil_append, Option.join_some, Option.getD_some, Option.bind_some, Option.map_some, stD_cons, stD_nil, tgtD_nm, tgtD_tp, tgtsD_nil, tgtsD_cons, argD_full, argD_own, argD_root, argD_cel, argD_nil, putC_full, putC_own, putC_root, putC_cel, putC_nil, outs_t, outs_f, outs_nil, subD_int, addD_int, subI_int, addI_int, mulD_ok, modD_ok, divD_ok, pow1018, pow1015, powD_ok, shlD_ok, shrD_ok, addD_str, mulD_str, b_sum_2, b_len_str, b_len_lst, b_len_tup, k_enumT_str, k_enum_lst, okMu_app, okMu_ext, okL_rng1, okL_rng2, andD_int, xorD_int, negD_int, ltD_int, leD_int, gtD_int, geD_int, eqD_int, eqD_str, eqD_bl, neD_int, neD_str, neD_bl, ixL_0, ixL_1, ixL_2, ixL_3, ixT_0, ixT_1, ixT_2, ixT_3, ixN_0, ixN_1, ixN_2, ixN_3, isD_non, isntD_non, isN, b_int_int, b_int_bl, b_max2_int, b_min2_int, b_abs_int, m_count_str, listD_lst, listD_slst, tupD, strD, decide_eq_true_eq, decide_eq_false_iff_not, decide_true, decide_false, eq_self, and_true, true_and, if_true, if_false, Bool.false_eq_true, ↓reduceIte, Nat.reduceAdd, Nat.reduceSub, Nat.reduceLT, ite_true, ite_false, Bool.not_true, Bool.not_false, Int.toNat_natCast, Int.reduceLT, Int.reduceLE, Int.reduceToNat, Int.reduceMul, Int.reduceAdd, Int.reduceSub, Int.reduceEq, Nat.reduceLeDiff, Nat.reduceMul, List.lookup_cons_self, s1, s2, s3, s4, s5]
  exact ⟨line_ok (by decide), line_ok (by decide), line_ok (by decide), rfl⟩)
theorem ten60 : (10 : Nat) ^ 60 = 1000000000000000000000000000000000000000000000000000000000000 := by decide +kernel
theorem pick_60 {d : D} {t : Nat} (B : Bg d) (q : ∀ r : Nat, r < 10 ^ 60 → ∀ d', Bg d' → QF (.int (r : Nat)) [d', .int (if t % 2 = 0 then 9 else 1000000000000000000000000000000000000000000000000000000000000)]) : OkF (fn_law_pick [d, .int (if t % 2 = 0 then 9 else 1000000000000000000000000000000000000000000000000000000000000)]) QF XF := by
  by_cases h : t % 2 = 0
  · rw [if_pos h] at q ⊢
    exact pick_bg B (by decide) (by decide) fun r hr d' B' => q r (by rw [ten60]; omega) d' B'
  · rw [if_neg h] at q ⊢
    exact pick_bg B (by decide) (by decide) fun r hr d' B' => q r (by rw [ten60]; omega) d' B'
theorem law_true : ∀ ns : List Int, ns.length ≤ 63 → ∃ ds, fn_law [.slst ns] = some (.ok (.bl true) ds) := by
  intro ns hn
  have h : OkF (fn_law [.slst ns]) (fun d _ => d = .bl true) fun _ _ => False := by
    obtain ⟨c, hc⟩ : ∃ c : Int, ixD (.lst (ns.map D.int ++ [.int 0])) (.int 0) = some (.int c) := by
      cases ns with
      | nil => exact ⟨0, by kernel_rfl⟩
      | cons c t => exact ⟨c, by
          show ixD _ (.int ((0 : Nat) : Int)) = _
          exact Mi.atI_nat rfl⟩
    unfold fn_law
    simp (dsimp := false) only [↓okE_Js0, ↓okE_Js, okJ_str, ↓okS_Raise1, ↓okS_RaiseX, ↓okE_Mk0, ↓okE_MkX, addSD_slst, okOx_non, okOx_int, okXf_exc, ↓okE_Xf, ↓okE_Dic, ↓okE_Dead, ↓okS_TryAs, ↓tryK_nx, ↓tryK_rt, isD_exc, ↓okE_Dit, ↓okE_Dii, ↓okE_Disp1, ↓okS_Dput, ↓okE_Dget2, ↓okE_ok, ↓okE_ex, ↓okA_ok, ↓okA_ex, ↓okS_some, okD_some, okN_some, okL_some, okG_some, ↓okE_bind, ↓okE_aBind, ↓okS_bind, ↓okS_aBind, ↓okE_lift, ↓okE_V, ↓okE_C, ↓okE_1, ↓okE_2, ↓okA_nil, ↓okA_cons, ↓okE_B, ↓okE_Tup, ↓okE_Lst, tE2_bl, ↓okE_If, ↓okE_And, ↓okE_Or, nE_bl, ↓okE_Not, okB_some, ↓okE_Tru, cE_bl, ↓okE_Chain, ↓okE_Chain3, ↓okE_callR, ↓okE_Call, okI_ins, ↓okE_Prop, ↓okE_Meth, ↓okE_Make, okFs_ins, ↓okE_Fld, okT_str, ↓okE_Txt, ↓okE_Cel, okRS_str, ↓okE_RevS, ↓okE_RevL, ↓okE_RevT, tupRev_tup, rev_two, bitsD_int, b_gcd_int, b_comb_ok, b_tuple_tup, b_tuple_lst, b_str_str, b_str_int, addD_lst, addD_tup, catD_lst, repD_lst, mulD_lst, k_zip_lst, k_rev_lst, b_list_lst, b_list_tup, okSl_nn, okSl_in, okSl_ni, okSl_ii, ↓okE_Sl, ↓okE_No, okBd_int, ↓okE_Bd, ↓okE_iL, ↓okE_iT, ↓okE_iS, ↓okE_iA, okC_lst, ↓okE_Comp, okMu_some, ↓okE_Mut, ↓seqK_nx, ↓seqK_rt, ↓seqK_ex, ↓seqK_bk, ↓seqK_ct, ↓okS_Seq, ↓okS_Next, ↓okS_Dead, ↓okS_Brk, ↓okS_Ct, ↓okS_RetN, ↓okS_Raise, ↓okS_Ret, ↓okS_Expr, ↓okS_Set, ↓okS_Par, ↓okS_Aug, ↓okS_Asg, ↓okS_If, okX_some, okZ_int, ↓okS_Sub, okFp_ins, ↓okS_Fld, ↓retK_nx, ↓retK_rt, ↓retK_ex, ↓okF_run, okF_val, okF_exc, ↓lpK_nx, ↓lpK_ct, ↓lpK_bk, ↓lpK_rt, ↓lpK_ex, ↓okS_For, List.getElem?_cons_zero, List.getElem?_cons_succ, List.set_cons_zero, List.set_cons_succ, List.map_cons, List.map_nil, List.length_cons, List.length_nil, List.replicate_succ, List.replicate_zero, List.cons_append, List.nil_append, Option.join_some, Option.getD_some, Option.bind_some, Option.map_some, stD_cons, stD_nil, tgtD_nm, tgtD_tp, tgtsD_nil, tgtsD_cons, argD_full, argD_own, argD_root, argD_cel, argD_nil, putC_full, putC_own, putC_root, putC_cel, putC_nil, outs_t, outs_f, outs_nil, subD_int, addD_int, subI_int, addI_int, mulD_ok, modD_ok, divD_ok, pow1018, pow1015, shlD_ok, shrD_ok, addD_str, mulD_str, b_sum_2, b_len_str, b_len_lst, b_len_tup, k_enumT_str, k_enum_lst, okMu_app, okMu_ext, okL_rng1, okL_rng2, andD_int, xorD_int, negD_int, ltD_int, leD_int, gtD_int, geD_int, eqD_int, eqD_str, eqD_bl, neD_int, neD_str, neD_bl, ixL_0, ixL_1, ixL_2, ixL_3, ixT_0, ixT_1, ixT_2, ixT_3, ixN_0, ixN_1, ixN_2, ixN_3, isD_non, isntD_non, isN, b_int_int, b_int_bl, b_max2_int, b_min2_int, b_abs_int, m_count_str, listD_lst, listD_slst, tupD, strD, decide_eq_true_eq, decide_eq_false_iff_not, decide_true, decide_false, eq_self, and_true, true_and, if_true, if_false, Bool.false_eq_true, ↓reduceIte, Nat.reduceAdd, Nat.reduceSub, Nat.reduceLT, ite_true, ite_false, Bool.not_true, Bool.not_false, Int.toNat_natCast, Int.reduceLT, Int.reduceLE, Int.reduceToNat, Int.reduceMul, Int.reduceAdd, Int.reduceSub, Int.reduceEq, Nat.reduceLeDiff, Nat.reduceMul, List.lookup_cons_self, hc, p10_60]
    refine ⟨line_ok (by omega), ?_⟩
    refine bag_ok fun d1 B1 => ?_
    simp (dsimp := false) only [↓okE_Js0, ↓okE_Js, okJ_str, ↓okS_Raise1, ↓okS_RaiseX, ↓okE_Mk0, ↓okE_MkX, addSD_slst, okOx_non, okOx_int, okXf_exc, ↓okE_Xf, ↓okE_Dic, ↓okE_Dead, ↓okS_TryAs, ↓tryK_nx, ↓tryK_rt, isD_exc, ↓okE_Dit, ↓okE_Dii, ↓okE_Disp1, ↓okS_Dput, ↓okE_Dget2, ↓okE_ok, ↓okE_ex, ↓okA_ok, ↓okA_ex, ↓okS_some, okD_some, okN_some, okL_some, okG_some, ↓okE_bind, ↓okE_aBind, ↓okS_bind, ↓okS_aBind, ↓okE_lift, ↓okE_V, ↓okE_C, ↓okE_1, ↓okE_2, ↓okA_nil, ↓okA_cons, ↓okE_B, ↓okE_Tup, ↓okE_Lst, tE2_bl, ↓okE_If, ↓okE_And, ↓okE_Or, nE_bl, ↓okE_Not, okB_some, ↓okE_Tru, cE_bl, ↓okE_Chain, ↓okE_Chain3, ↓okE_callR, ↓okE_Call, okI_ins, ↓okE_Prop, ↓okE_Meth, ↓okE_Make, okFs_ins, ↓okE_Fld, okT_str, ↓okE_Txt, ↓okE_Cel, okRS_str, ↓okE_RevS, ↓okE_RevL, ↓okE_RevT, tupRev_tup, rev_two, bitsD_int, b_gcd_int, b_comb_ok, b_tuple_tup, b_tuple_lst, b_str_str, b_str_int, addD_lst, addD_tup, catD_lst, repD_lst, mulD_lst, k_zip_lst, k_rev_lst, b_list_lst, b_list_tup, okSl_nn, okSl_in, okSl_ni, okSl_ii, ↓okE_Sl, ↓okE_No, okBd_int, ↓okE_Bd, ↓okE_iL, ↓okE_iT, ↓okE_iS, ↓okE_iA, okC_lst, ↓okE_Comp, okMu_some, ↓okE_Mut, ↓seqK_nx, ↓seqK_rt, ↓seqK_ex, ↓seqK_bk, ↓seqK_ct, ↓okS_Seq, ↓okS_Next, ↓okS_Dead, ↓okS_Brk, ↓okS_Ct, ↓okS_RetN, ↓okS_Raise, ↓okS_Ret, ↓okS_Expr, ↓okS_Set, ↓okS_Par, ↓okS_Aug, ↓okS_Asg, ↓okS_If, okX_some, okZ_int, ↓okS_Sub, okFp_ins, ↓okS_Fld, ↓retK_nx, ↓retK_rt, ↓retK_ex, ↓okF_run, okF_val, okF_exc, ↓lpK_nx, ↓lpK_ct, ↓lpK_bk, ↓lpK_rt, ↓lpK_ex, ↓okS_For, List.getElem?_cons_zero, List.getElem?_cons_succ, List.set_cons_zero, List.set_cons_succ, List.map_cons, List.map_nil, List.length_cons, List.length_nil, List.replicate_succ, List.replicate_zero, List.cons_append, List.nil_append, Option.join_some, Option.getD_some, Option.bind_some, Option.map_some, stD_cons, stD_nil, tgtD_nm, tgtD_tp, tgtsD_nil, tgtsD_cons, argD_full, argD_own, argD_root, argD_cel, argD_nil, putC_full, putC_own, putC_root, putC_cel, putC_nil, outs_t, outs_f, outs_nil, subD_int, addD_int, subI_int, addI_int, mulD_ok, modD_ok, divD_ok, pow1018, pow1015, powD_ok, shlD_ok, shrD_ok, addD_str, mulD_str, b_sum_2, b_len_str, b_len_lst, b_len_tup, k_enumT_str, k_enum_lst, okMu_app, okMu_ext, okL_rng1, okL_rng2, andD_int, xorD_int, negD_int, ltD_int, leD_int, gtD_int, geD_int, eqD_int, eqD_str, eqD_bl, neD_int, neD_str, neD_bl, ixL_0, ixL_1, ixL_2, ixL_3, ixT_0, ixT_1, ixT_2, ixT_3, ixN_0, ixN_1, ixN_2, ixN_3, isD_non, isntD_non, isN, b_int_int, b_int_bl, b_max2_int, b_min2_int, b_abs_int, m_count_str, listD_lst, listD_slst, tupD, strD, decide_eq_true_eq, decide_eq_false_iff_not, decide_true, decide_false, eq_self, and_true, true_and, if_true, if_false, Bool.false_eq_true, ↓reduceIte, Nat.reduceAdd, Nat.reduceSub, Nat.reduceLT, ite_true, ite_false, Bool.not_true, Bool.not_false, Int.toNat_natCast, Int.reduceLT, Int.reduceLE, Int.reduceToNat, Int.reduceMul, Int.reduceAdd, Int.reduceSub, Int.reduceEq, Nat.reduceLeDiff, Nat.reduceMul, List.lookup_cons_self]
    refine ⟨by unfold rngC; omega, ?_⟩
    rw [show rngL 0 4 = (List.range 4).map (fun t : Nat => D.int (t : Int)) from rng_nat 4]
    refine loop_rng (fun k ρ => ∃ (d' : D) (y2 y3 y4 y5 y6 y7 : Option D), Bg d' ∧ ρ = [some (.slst ns), some d', y2, y3, y4, y5, y6, y7, none, none]) ?_ ?_ ⟨d1, none, none, none, none, none, none, B1, rfl⟩
    · rintro t ρ ht ⟨d', y2, y3, y4, y5, y6, y7, B', rfl⟩
      have e1 : ixD (.lst [.int 9, .int 1000000000000000000000000000000000000000000000000000000000000]) (.int ((t : Int) % 2)) = some (.int (if t % 2 = 0 then 9 else 1000000000000000000000000000000000000000000000000000000000000)) := by
        match t, ht with
        | 0, _ => kernel_rfl
        | 1, _ => kernel_rfl
        | 2, _ => kernel_rfl
        | 3, _ => kernel_rfl
      simp (dsimp := false) only [↓okE_Js0, ↓okE_Js, okJ_str, ↓okS_Raise1, ↓okS_RaiseX, ↓okE_Mk0, ↓okE_MkX, addSD_slst, okOx_non, okOx_int, okXf_exc, ↓okE_Xf, ↓okE_Dic, ↓okE_Dead, ↓okS_TryAs, ↓tryK_nx, ↓tryK_rt, isD_exc, ↓okE_Dit, ↓okE_Dii, ↓okE_Disp1, ↓okS_Dput, ↓okE_Dget2, ↓okE_ok, ↓okE_ex, ↓okA_ok, ↓okA_ex, ↓okS_some, okD_some, okN_some, okL_some, okG_some, ↓okE_bind, ↓okE_aBind, ↓okS_bind, ↓okS_aBind, ↓okE_lift, ↓okE_V, ↓okE_C, ↓okE_1, ↓okE_2, ↓okA_nil, ↓okA_cons, ↓okE_B, ↓okE_Tup, ↓okE_Lst, tE2_bl, ↓okE_If, ↓okE_And, ↓okE_Or, nE_bl, ↓okE_Not, okB_some, ↓okE_Tru, cE_bl, ↓okE_Chain, ↓okE_Chain3, ↓okE_callR, ↓okE_Call, okI_ins, ↓okE_Prop, ↓okE_Meth, ↓okE_Make, okFs_ins, ↓okE_Fld, okT_str, ↓okE_Txt, ↓okE_Cel, okRS_str, ↓okE_RevS, ↓okE_RevL, ↓okE_RevT, tupRev_tup, rev_two, bitsD_int, b_gcd_int, b_comb_ok, b_tuple_tup, b_tuple_lst, b_str_str, b_str_int, addD_lst, addD_tup, catD_lst, repD_lst, mulD_lst, k_zip_lst, k_rev_lst, b_list_lst, b_list_tup, okSl_nn, okSl_in, okSl_ni, okSl_ii, ↓okE_Sl, ↓okE_No, okBd_int, ↓okE_Bd, ↓okE_iL, ↓okE_iT, ↓okE_iS, ↓okE_iA, okC_lst, ↓okE_Comp, okMu_some, ↓okE_Mut, ↓seqK_nx, ↓seqK_rt, ↓seqK_ex, ↓seqK_bk, ↓seqK_ct, ↓okS_Seq, ↓okS_Next, ↓okS_Dead, ↓okS_Brk, ↓okS_Ct, ↓okS_RetN, ↓okS_Raise, ↓okS_Ret, ↓okS_Expr, ↓okS_Set, ↓okS_Par, ↓okS_Aug, ↓okS_Asg, ↓okS_If, okX_some, okZ_int, ↓okS_Sub, okFp_ins, ↓okS_Fld, ↓retK_nx, ↓retK_rt, ↓retK_ex, ↓okF_run, okF_val, okF_exc, ↓lpK_nx, ↓lpK_ct, ↓lpK_bk, ↓lpK_rt, ↓lpK_ex, ↓okS_For, List.getElem?_cons_zero, List.getElem?_cons_succ, List.set_cons_zero, List.set_cons_succ, List.map_cons, List.map_nil, List.length_cons, List.length_nil, List.replicate_succ, List.replicate_zero, List.cons_append, List.nil_append, Option.join_some, Option.getD_some, Option.bind_some, Option.map_some, stD_cons, stD_nil, tgtD_nm, tgtD_tp, tgtsD_nil, tgtsD_cons, argD_full, argD_own, argD_root, argD_cel, argD_nil, putC_full, putC_own, putC_root, putC_cel, putC_nil, outs_t, outs_f, outs_nil, subD_int, addD_int, subI_int, addI_int, mulD_ok, modD_ok, divD_ok, pow1018, pow1015, shlD_ok, shrD_ok, addD_str, mulD_str, b_sum_2, b_len_str, b_len_lst, b_len_tup, k_enumT_str, k_enum_lst, okMu_app, okMu_ext, okL_rng1, okL_rng2, andD_int, xorD_int, negD_int, ltD_int, leD_int, gtD_int, geD_int, eqD_int, eqD_str, eqD_bl, neD_int, neD_str, neD_bl, ixL_0, ixL_1, ixL_2, ixL_3, ixT_0, ixT_1, ixT_2, ixT_3, ixN_0, ixN_1, ixN_2, ixN_3, isD_non, isntD_non, isN, b_int_int, b_int_bl, b_max2_int, b_min2_int, b_abs_int, m_count_str, listD_lst, listD_slst, tupD, strD, decide_eq_true_eq, decide_eq_false_iff_not, decide_true, decide_false, eq_self, and_true, true_and, if_true, if_false, Bool.false_eq_true, ↓reduceIte, Nat.reduceAdd, Nat.reduceSub, Nat.reduceLT, ite_true, ite_false, Bool.not_true, Bool.not_false, Int.toNat_natCast, Int.reduceLT, Int.reduceLE, Int.reduceToNat, Int.reduceMul, Int.reduceAdd, Int.reduceSub, Int.reduceEq, Nat.reduceLeDiff, Nat.reduceMul, List.lookup_cons_self, e1, p10_60]
      refine pick_60 B' fun i hi d2 B2 => ?_
      simp (dsimp := false) only [↓okE_Js0, ↓okE_Js, okJ_str, ↓okS_Raise1, ↓okS_RaiseX, ↓okE_Mk0, ↓okE_MkX, addSD_slst, okOx_non, okOx_int, okXf_exc, ↓okE_Xf, ↓okE_Dic, ↓okE_Dead, ↓okS_TryAs, ↓tryK_nx, ↓tryK_rt, isD_exc, ↓okE_Dit, ↓okE_Dii, ↓okE_Disp1, ↓okS_Dput, ↓okE_Dget2, ↓okE_ok, ↓okE_ex, ↓okA_ok, ↓okA_ex, ↓okS_some, okD_some, okN_some, okL_some, okG_some, ↓okE_bind, ↓okE_aBind, ↓okS_bind, ↓okS_aBind, ↓okE_lift, ↓okE_V, ↓okE_C, ↓okE_1, ↓okE_2, ↓okA_nil, ↓okA_cons, ↓okE_B, ↓okE_Tup, ↓okE_Lst, tE2_bl, ↓okE_If, ↓okE_And, ↓okE_Or, nE_bl, ↓okE_Not, okB_some, ↓okE_Tru, cE_bl, ↓okE_Chain, ↓okE_Chain3, ↓okE_callR, ↓okE_Call, okI_ins, ↓okE_Prop, ↓okE_Meth, ↓okE_Make, okFs_ins, ↓okE_Fld, okT_str, ↓okE_Txt, ↓okE_Cel, okRS_str, ↓okE_RevS, ↓okE_RevL, ↓okE_RevT, tupRev_tup, rev_two, bitsD_int, b_gcd_int, b_comb_ok, b_tuple_tup, b_tuple_lst, b_str_str, b_str_int, addD_lst, addD_tup, catD_lst, repD_lst, mulD_lst, k_zip_lst, k_rev_lst, b_list_lst, b_list_tup, okSl_nn, okSl_in, okSl_ni, okSl_ii, ↓okE_Sl, ↓okE_No, okBd_int, ↓okE_Bd, ↓okE_iL, ↓okE_iT, ↓okE_iS, ↓okE_iA, okC_lst, ↓okE_Comp, okMu_some, ↓okE_Mut, ↓seqK_nx, ↓seqK_rt, ↓seqK_ex, ↓seqK_bk, ↓seqK_ct, ↓okS_Seq, ↓okS_Next, ↓okS_Dead, ↓okS_Brk, ↓okS_Ct, ↓okS_RetN, ↓okS_Raise, ↓okS_Ret, ↓okS_Expr, ↓okS_Set, ↓okS_Par, ↓okS_Aug, ↓okS_Asg, ↓okS_If, okX_some, okZ_int, ↓okS_Sub, okFp_ins, ↓okS_Fld, ↓retK_nx, ↓retK_rt, ↓retK_ex, ↓okF_run, okF_val, okF_exc, ↓lpK_nx, ↓lpK_ct, ↓lpK_bk, ↓lpK_rt, ↓lpK_ex, ↓okS_For, List.getElem?_cons_zero, List.getElem?_cons_succ, List.set_cons_zero, List.set_cons_succ, List.map_cons, List.map_nil, List.length_cons, List.length_nil, List.replicate_succ, List.replicate_zero, List.cons_append, List.nil_append, Option.join_some, Option.getD_some, Option.bind_some, Option.map_some, stD_cons, stD_nil, tgtD_nm, tgtD_tp, tgtsD_nil, tgtsD_cons, argD_full, argD_own, argD_root, argD_cel, argD_nil, putC_full, putC_own, putC_root, putC_cel, putC_nil, outs_t, outs_f, outs_nil, subD_int, addD_int, subI_int, addI_int, mulD_ok, modD_ok, divD_ok, pow1018, pow1015, powD_ok, shlD_ok, shrD_ok, addD_str, mulD_str, b_sum_2, b_len_str, b_len_lst, b_len_tup, k_enumT_str, k_enum_lst, okMu_app, okMu_ext, okL_rng1, okL_rng2, andD_int, xorD_int, negD_int, ltD_int, leD_int, gtD_int, geD_int, eqD_int, eqD_str, eqD_bl, neD_int, neD_str, neD_bl, ixL_0, ixL_1, ixL_2, ixL_3, ixT_0, ixT_1, ixT_2, ixT_3, ixN_0, ixN_1, ixN_2, ixN_3, isD_non, isntD_non, isN, b_int_int, b_int_bl, b_max2_int, b_min2_int, b_abs_int, m_count_str, listD_lst, listD_slst, tupD, strD, decide_eq_true_eq, decide_eq_false_iff_not, decide_true, decide_false, eq_self, and_true, true_and, if_true, if_false, Bool.false_eq_true, ↓reduceIte, Nat.reduceAdd, Nat.reduceSub, Nat.reduceLT, ite_true, ite_false, Bool.not_true, Bool.not_false, Int.toNat_natCast, Int.reduceLT, Int.reduceLE, Int.reduceToNat, Int.reduceMul, Int.reduceAdd, Int.reduceSub, Int.reduceEq, Nat.reduceLeDiff, Nat.reduceMul, List.lookup_cons_self, made_eq hi]
      rw [show enumL 0 ((List.range 19).map (exD (.int (i : Nat)))) = (List.range 19).map (fun k : Nat => D.tup [.int (k : Nat), exD (.int (i : Nat)) k]) from rfl]
      refine loop_rng (fun k ρ => ∃ (y5 y6 y7 : Option D), ρ = [some (.slst ns), some d2, some (.int (t : Nat)), some (.int (i : Nat)), some (.lst ((List.range 19).map (exD (.int (i : Nat))))), y5, y6, y7, none, none]) ?_ ?_ ⟨_, _, _, rfl⟩
      · rintro k ρ hk ⟨y5, y6, y7, rfl⟩
        have o : neD (oneB k) (.lst ((List.range 19).map fun j : Nat => D.bl (decide (j = k)))) = some (.bl false) := one_ne hk
        simp (dsimp := false) only [↓okE_Js0, ↓okE_Js, okJ_str, ↓okS_Raise1, ↓okS_RaiseX, ↓okE_Mk0, ↓okE_MkX, addSD_slst, okOx_non, okOx_int, okXf_exc, ↓okE_Xf, ↓okE_Dic, ↓okE_Dead, ↓okS_TryAs, ↓tryK_nx, ↓tryK_rt, isD_exc, ↓okE_Dit, ↓okE_Dii, ↓okE_Disp1, ↓okS_Dput, ↓okE_Dget2, ↓okE_ok, ↓okE_ex, ↓okA_ok, ↓okA_ex, ↓okS_some, okD_some, okN_some, okL_some, okG_some, ↓okE_bind, ↓okE_aBind, ↓okS_bind, ↓okS_aBind, ↓okE_lift, ↓okE_V, ↓okE_C, ↓okE_1, ↓okE_2, ↓okA_nil, ↓okA_cons, ↓okE_B, ↓okE_Tup, ↓okE_Lst, tE2_bl, ↓okE_If, ↓okE_And, ↓okE_Or, nE_bl, ↓okE_Not, okB_some, ↓okE_Tru, cE_bl, ↓okE_Chain, ↓okE_Chain3, ↓okE_callR, ↓okE_Call, okI_ins, ↓okE_Prop, ↓okE_Meth, ↓okE_Make, okFs_ins, ↓okE_Fld, okT_str, ↓okE_Txt, ↓okE_Cel, okRS_str, ↓okE_RevS, ↓okE_RevL, ↓okE_RevT, tupRev_tup, rev_two, bitsD_int, b_gcd_int, b_comb_ok, b_tuple_tup, b_tuple_lst, b_str_str, b_str_int, addD_lst, addD_tup, catD_lst, repD_lst, mulD_lst, k_zip_lst, k_rev_lst, b_list_lst, b_list_tup, okSl_nn, okSl_in, okSl_ni, okSl_ii, ↓okE_Sl, ↓okE_No, okBd_int, ↓okE_Bd, ↓okE_iL, ↓okE_iT, ↓okE_iS, ↓okE_iA, okC_lst, ↓okE_Comp, okMu_some, ↓okE_Mut, ↓seqK_nx, ↓seqK_rt, ↓seqK_ex, ↓seqK_bk, ↓seqK_ct, ↓okS_Seq, ↓okS_Next, ↓okS_Dead, ↓okS_Brk, ↓okS_Ct, ↓okS_RetN, ↓okS_Raise, ↓okS_Ret, ↓okS_Expr, ↓okS_Set, ↓okS_Par, ↓okS_Aug, ↓okS_Asg, ↓okS_If, okX_some, okZ_int, ↓okS_Sub, okFp_ins, ↓okS_Fld, ↓retK_nx, ↓retK_rt, ↓retK_ex, ↓okF_run, okF_val, okF_exc, ↓lpK_nx, ↓lpK_ct, ↓lpK_bk, ↓lpK_rt, ↓lpK_ex, ↓okS_For, List.getElem?_cons_zero, List.getElem?_cons_succ, List.set_cons_zero, List.set_cons_succ, List.map_cons, List.map_nil, List.length_cons, List.length_nil, List.replicate_succ, List.replicate_zero, List.cons_append, List.nil_append, Option.join_some, Option.getD_some, Option.bind_some, Option.map_some, stD_cons, stD_nil, tgtD_nm, tgtD_tp, tgtsD_nil, tgtsD_cons, argD_full, argD_own, argD_root, argD_cel, argD_nil, putC_full, putC_own, putC_root, putC_cel, putC_nil, outs_t, outs_f, outs_nil, subD_int, addD_int, subI_int, addI_int, mulD_ok, modD_ok, divD_ok, pow1018, pow1015, powD_ok, shlD_ok, shrD_ok, addD_str, mulD_str, b_sum_2, b_len_str, b_len_lst, b_len_tup, k_enumT_str, k_enum_lst, okMu_app, okMu_ext, okL_rng1, okL_rng2, andD_int, xorD_int, negD_int, ltD_int, leD_int, gtD_int, geD_int, eqD_int, eqD_str, eqD_bl, neD_int, neD_str, neD_bl, ixL_0, ixL_1, ixL_2, ixL_3, ixT_0, ixT_1, ixT_2, ixT_3, ixN_0, ixN_1, ixN_2, ixN_3, isD_non, isntD_non, isN, b_int_int, b_int_bl, b_max2_int, b_min2_int, b_abs_int, m_count_str, listD_lst, listD_slst, tupD, strD, decide_eq_true_eq, decide_eq_false_iff_not, decide_true, decide_false, eq_self, and_true, true_and, if_true, if_false, Bool.false_eq_true, ↓reduceIte, Nat.reduceAdd, Nat.reduceSub, Nat.reduceLT, ite_true, ite_false, Bool.not_true, Bool.not_false, Int.toNat_natCast, Int.reduceLT, Int.reduceLE, Int.reduceToNat, Int.reduceMul, Int.reduceAdd, Int.reduceSub, Int.reduceEq, Nat.reduceLeDiff, Nat.reduceMul, List.lookup_cons_self, (lace_at (d := .int (i : Nat)) hk).1, (lace_at (d := .int (i : Nat)) hk).2, classes_at hk]
        have ln : (List.map (exD (D.int (i : Nat))) (List.range 19)).length = 19 := by rw [List.length_map, List.length_range]
        refine ⟨by rw [ln]; unfold rngC; decide, ?_⟩
        rw [ln, show rngL 0 19 = (List.range 19).map (fun t : Nat => D.int (t : Int)) from rng_nat 19, compF_typed (gD := fun j : Nat => D.bl (decide (j = k))) (List.range 19) (by decide) fun j hj => ⟨_, rfl, by
          simp (dsimp := false) only [↓okE_Js0, ↓okE_Js, okJ_str, ↓okS_Raise1, ↓okS_RaiseX, ↓okE_Mk0, ↓okE_MkX, addSD_slst, okOx_non, okOx_int, okXf_exc, ↓okE_Xf, ↓okE_Dic, ↓okE_Dead, ↓okS_TryAs, ↓tryK_nx, ↓tryK_rt, isD_exc, ↓okE_Dit, ↓okE_Dii, ↓okE_Disp1, ↓okS_Dput, ↓okE_Dget2, ↓okE_ok, ↓okE_ex, ↓okA_ok, ↓okA_ex, ↓okS_some, okD_some, okN_some, okL_some, okG_some, ↓okE_bind, ↓okE_aBind, ↓okS_bind, ↓okS_aBind, ↓okE_lift, ↓okE_V, ↓okE_C, ↓okE_1, ↓okE_2, ↓okA_nil, ↓okA_cons, ↓okE_B, ↓okE_Tup, ↓okE_Lst, tE2_bl, ↓okE_If, ↓okE_And, ↓okE_Or, nE_bl, ↓okE_Not, okB_some, ↓okE_Tru, cE_bl, ↓okE_Chain, ↓okE_Chain3, ↓okE_callR, ↓okE_Call, okI_ins, ↓okE_Prop, ↓okE_Meth, ↓okE_Make, okFs_ins, ↓okE_Fld, okT_str, ↓okE_Txt, ↓okE_Cel, okRS_str, ↓okE_RevS, ↓okE_RevL, ↓okE_RevT, tupRev_tup, rev_two, bitsD_int, b_gcd_int, b_comb_ok, b_tuple_tup, b_tuple_lst, b_str_str, b_str_int, addD_lst, addD_tup, catD_lst, repD_lst, mulD_lst, k_zip_lst, k_rev_lst, b_list_lst, b_list_tup, okSl_nn, okSl_in, okSl_ni, okSl_ii, ↓okE_Sl, ↓okE_No, okBd_int, ↓okE_Bd, ↓okE_iL, ↓okE_iT, ↓okE_iS, ↓okE_iA, okC_lst, ↓okE_Comp, okMu_some, ↓okE_Mut, ↓seqK_nx, ↓seqK_rt, ↓seqK_ex, ↓seqK_bk, ↓seqK_ct, ↓okS_Seq, ↓okS_Next, ↓okS_Dead, ↓okS_Brk, ↓okS_Ct, ↓okS_RetN, ↓okS_Raise, ↓okS_Ret, ↓okS_Expr, ↓okS_Set, ↓okS_Par, ↓okS_Aug, ↓okS_Asg, ↓okS_If, okX_some, okZ_int, ↓okS_Sub, okFp_ins, ↓okS_Fld, ↓retK_nx, ↓retK_rt, ↓retK_ex, ↓okF_run, okF_val, okF_exc, ↓lpK_nx, ↓lpK_ct, ↓lpK_bk, ↓lpK_rt, ↓lpK_ex, ↓okS_For, List.getElem?_cons_zero, List.getElem?_cons_succ, List.set_cons_zero, List.set_cons_succ, List.map_cons, List.map_nil, List.length_cons, List.length_nil, List.replicate_succ, List.replicate_zero, List.cons_append, List.nil_append, Option.join_some, Option.getD_some, Option.bind_some, Option.map_some, stD_cons, stD_nil, tgtD_nm, tgtD_tp, tgtsD_nil, tgtsD_cons, argD_full, argD_own, argD_root, argD_cel, argD_nil, putC_full, putC_own, putC_root, putC_cel, putC_nil, outs_t, outs_f, outs_nil, subD_int, addD_int, subI_int, addI_int, mulD_ok, modD_ok, divD_ok, pow1018, pow1015, powD_ok, shlD_ok, shrD_ok, addD_str, mulD_str, b_sum_2, b_len_str, b_len_lst, b_len_tup, k_enumT_str, k_enum_lst, okMu_app, okMu_ext, okL_rng1, okL_rng2, andD_int, xorD_int, negD_int, ltD_int, leD_int, gtD_int, geD_int, eqD_int, eqD_str, eqD_bl, neD_int, neD_str, neD_bl, ixL_0, ixL_1, ixL_2, ixL_3, ixT_0, ixT_1, ixT_2, ixT_3, ixN_0, ixN_1, ixN_2, ixN_3, isD_non, isntD_non, isN, b_int_int, b_int_bl, b_max2_int, b_min2_int, b_abs_int, m_count_str, listD_lst, listD_slst, tupD, strD, decide_eq_true_eq, decide_eq_false_iff_not, decide_true, decide_false, eq_self, and_true, true_and, if_true, if_false, Bool.false_eq_true, ↓reduceIte, Nat.reduceAdd, Nat.reduceSub, Nat.reduceLT, ite_true, ite_false, Bool.not_true, Bool.not_false, Int.toNat_natCast, Int.reduceLT, Int.reduceLE, Int.reduceToNat, Int.reduceMul, Int.reduceAdd, Int.reduceSub, Int.reduceEq, Nat.reduceLeDiff, Nat.reduceMul, List.lookup_cons_self, wipeD]
          exact congrArg D.bl (decide_eq_decide.mpr ⟨fun h => Int.ofNat.inj h, fun h => congrArg Int.ofNat h⟩), rfl⟩]
        simp (dsimp := false) only [↓okE_Js0, ↓okE_Js, okJ_str, ↓okS_Raise1, ↓okS_RaiseX, ↓okE_Mk0, ↓okE_MkX, addSD_slst, okOx_non, okOx_int, okXf_exc, ↓okE_Xf, ↓okE_Dic, ↓okE_Dead, ↓okS_TryAs, ↓tryK_nx, ↓tryK_rt, isD_exc, ↓okE_Dit, ↓okE_Dii, ↓okE_Disp1, ↓okS_Dput, ↓okE_Dget2, ↓okE_ok, ↓okE_ex, ↓okA_ok, ↓okA_ex, ↓okS_some, okD_some, okN_some, okL_some, okG_some, ↓okE_bind, ↓okE_aBind, ↓okS_bind, ↓okS_aBind, ↓okE_lift, ↓okE_V, ↓okE_C, ↓okE_1, ↓okE_2, ↓okA_nil, ↓okA_cons, ↓okE_B, ↓okE_Tup, ↓okE_Lst, tE2_bl, ↓okE_If, ↓okE_And, ↓okE_Or, nE_bl, ↓okE_Not, okB_some, ↓okE_Tru, cE_bl, ↓okE_Chain, ↓okE_Chain3, ↓okE_callR, ↓okE_Call, okI_ins, ↓okE_Prop, ↓okE_Meth, ↓okE_Make, okFs_ins, ↓okE_Fld, okT_str, ↓okE_Txt, ↓okE_Cel, okRS_str, ↓okE_RevS, ↓okE_RevL, ↓okE_RevT, tupRev_tup, rev_two, bitsD_int, b_gcd_int, b_comb_ok, b_tuple_tup, b_tuple_lst, b_str_str, b_str_int, addD_lst, addD_tup, catD_lst, repD_lst, mulD_lst, k_zip_lst, k_rev_lst, b_list_lst, b_list_tup, okSl_nn, okSl_in, okSl_ni, okSl_ii, ↓okE_Sl, ↓okE_No, okBd_int, ↓okE_Bd, ↓okE_iL, ↓okE_iT, ↓okE_iS, ↓okE_iA, okC_lst, ↓okE_Comp, okMu_some, ↓okE_Mut, ↓seqK_nx, ↓seqK_rt, ↓seqK_ex, ↓seqK_bk, ↓seqK_ct, ↓okS_Seq, ↓okS_Next, ↓okS_Dead, ↓okS_Brk, ↓okS_Ct, ↓okS_RetN, ↓okS_Raise, ↓okS_Ret, ↓okS_Expr, ↓okS_Set, ↓okS_Par, ↓okS_Aug, ↓okS_Asg, ↓okS_If, okX_some, okZ_int, ↓okS_Sub, okFp_ins, ↓okS_Fld, ↓retK_nx, ↓retK_rt, ↓retK_ex, ↓okF_run, okF_val, okF_exc, ↓lpK_nx, ↓lpK_ct, ↓lpK_bk, ↓lpK_rt, ↓lpK_ex, ↓okS_For, List.getElem?_cons_zero, List.getElem?_cons_succ, List.set_cons_zero, List.set_cons_succ, List.map_cons, List.map_nil, List.length_cons, List.length_nil, List.replicate_succ, List.replicate_zero, List.cons_append, List.nil_append, Option.join_some, Option.getD_some, Option.bind_some, Option.map_some, stD_cons, stD_nil, tgtD_nm, tgtD_tp, tgtsD_nil, tgtsD_cons, argD_full, argD_own, argD_root, argD_cel, argD_nil, putC_full, putC_own, putC_root, putC_cel, putC_nil, outs_t, outs_f, outs_nil, subD_int, addD_int, subI_int, addI_int, mulD_ok, modD_ok, divD_ok, pow1018, pow1015, powD_ok, shlD_ok, shrD_ok, addD_str, mulD_str, b_sum_2, b_len_str, b_len_lst, b_len_tup, k_enumT_str, k_enum_lst, okMu_app, okMu_ext, okL_rng1, okL_rng2, andD_int, xorD_int, negD_int, ltD_int, leD_int, gtD_int, geD_int, eqD_int, eqD_str, eqD_bl, neD_int, neD_str, neD_bl, ixL_0, ixL_1, ixL_2, ixL_3, ixT_0, ixT_1, ixT_2, ixT_3, ixN_0, ixN_1, ixN_2, ixN_3, isD_non, isntD_non, isN, b_int_int, b_int_bl, b_max2_int, b_min2_int, b_abs_int, m_count_str, listD_lst, listD_slst, tupD, strD, decide_eq_true_eq, decide_eq_false_iff_not, decide_true, decide_false, eq_self, and_true, true_and, if_true, if_false, Bool.false_eq_true, ↓reduceIte, Nat.reduceAdd, Nat.reduceSub, Nat.reduceLT, ite_true, ite_false, Bool.not_true, Bool.not_false, Int.toNat_natCast, Int.reduceLT, Int.reduceLE, Int.reduceToNat, Int.reduceMul, Int.reduceAdd, Int.reduceSub, Int.reduceEq, Nat.reduceLeDiff, Nat.reduceMul, List.lookup_cons_self, o]
        exact ⟨_, _, _, rfl⟩
      · rintro ρ ⟨y5, y6, y7, rfl⟩
        have x0 : ixD (.lst ((List.range 19).map (exD (.int (i : Nat))))) (.int 0) = some (.exc "InvalidLoad" [("item", .int (i : Nat))]) := by kernel_rfl
        have x1 : ixD (.lst ((List.range 19).map (exD (.int (i : Nat))))) (.int 1) = some (.exc "InvalidBoxes" [("item", .int (i : Nat))]) := by kernel_rfl
        have x2 : ixD (.lst ((List.range 19).map (exD (.int (i : Nat))))) (.int 2) = some (.exc "InvalidText" [("part", .int (i : Nat))]) := by kernel_rfl
        have x3 : ixD (.lst ((List.range 19).map (exD (.int (i : Nat))))) (.int 3) = some (.exc "TooMany" [("limit", .int (i : Nat))]) := by kernel_rfl
        have x4 : ixD (.lst ((List.range 19).map (exD (.int (i : Nat))))) (.int 4) = some (.exc "OverBudget" [("total", .int (i : Nat))]) := by kernel_rfl
        have pi : PlE 0 (.int (i : Nat)) := ple_nat (Nat.lt_trans hi (by rw [ten60]; decide +kernel))
        have nq : neD (.lst [.int (i : Nat), .int (i : Nat), .int (i : Nat), .int (i : Nat), .int (i : Nat)]) (.lst [[.int (i : Nat)], [.int (i : Nat)], [.int (i : Nat)], [.int (i : Nat)], [.int (i : Nat)]].flatten) = some (.bl false) := PlE.ne (k := 1) (ple_lst (ple_cons pi (ple_cons pi (ple_cons pi (ple_cons pi (ple_cons pi ple_nil))))))
        simp (dsimp := false) only [↓okE_Js0, ↓okE_Js, okJ_str, ↓okS_Raise1, ↓okS_RaiseX, ↓okE_Mk0, ↓okE_MkX, addSD_slst, okOx_non, okOx_int, okXf_exc, ↓okE_Xf, ↓okE_Dic, ↓okE_Dead, ↓okS_TryAs, ↓tryK_nx, ↓tryK_rt, isD_exc, ↓okE_Dit, ↓okE_Dii, ↓okE_Disp1, ↓okS_Dput, ↓okE_Dget2, ↓okE_ok, ↓okE_ex, ↓okA_ok, ↓okA_ex, ↓okS_some, okD_some, okN_some, okL_some, okG_some, ↓okE_bind, ↓okE_aBind, ↓okS_bind, ↓okS_aBind, ↓okE_lift, ↓okE_V, ↓okE_C, ↓okE_1, ↓okE_2, ↓okA_nil, ↓okA_cons, ↓okE_B, ↓okE_Tup, ↓okE_Lst, tE2_bl, ↓okE_If, ↓okE_And, ↓okE_Or, nE_bl, ↓okE_Not, okB_some, ↓okE_Tru, cE_bl, ↓okE_Chain, ↓okE_Chain3, ↓okE_callR, ↓okE_Call, okI_ins, ↓okE_Prop, ↓okE_Meth, ↓okE_Make, okFs_ins, ↓okE_Fld, okT_str, ↓okE_Txt, ↓okE_Cel, okRS_str, ↓okE_RevS, ↓okE_RevL, ↓okE_RevT, tupRev_tup, rev_two, bitsD_int, b_gcd_int, b_comb_ok, b_tuple_tup, b_tuple_lst, b_str_str, b_str_int, addD_lst, addD_tup, catD_lst, repD_lst, mulD_lst, k_zip_lst, k_rev_lst, b_list_lst, b_list_tup, okSl_nn, okSl_in, okSl_ni, okSl_ii, ↓okE_Sl, ↓okE_No, okBd_int, ↓okE_Bd, ↓okE_iL, ↓okE_iT, ↓okE_iS, ↓okE_iA, okC_lst, ↓okE_Comp, okMu_some, ↓okE_Mut, ↓seqK_nx, ↓seqK_rt, ↓seqK_ex, ↓seqK_bk, ↓seqK_ct, ↓okS_Seq, ↓okS_Next, ↓okS_Dead, ↓okS_Brk, ↓okS_Ct, ↓okS_RetN, ↓okS_Raise, ↓okS_Ret, ↓okS_Expr, ↓okS_Set, ↓okS_Par, ↓okS_Aug, ↓okS_Asg, ↓okS_If, okX_some, okZ_int, ↓okS_Sub, okFp_ins, ↓okS_Fld, ↓retK_nx, ↓retK_rt, ↓retK_ex, ↓okF_run, okF_val, okF_exc, ↓lpK_nx, ↓lpK_ct, ↓lpK_bk, ↓lpK_rt, ↓lpK_ex, ↓okS_For, List.getElem?_cons_zero, List.getElem?_cons_succ, List.set_cons_zero, List.set_cons_succ, List.map_cons, List.map_nil, List.length_cons, List.length_nil, List.replicate_succ, List.replicate_zero, List.cons_append, List.nil_append, Option.join_some, Option.getD_some, Option.bind_some, Option.map_some, stD_cons, stD_nil, tgtD_nm, tgtD_tp, tgtsD_nil, tgtsD_cons, argD_full, argD_own, argD_root, argD_cel, argD_nil, putC_full, putC_own, putC_root, putC_cel, putC_nil, outs_t, outs_f, outs_nil, subD_int, addD_int, subI_int, addI_int, mulD_ok, modD_ok, divD_ok, pow1018, pow1015, powD_ok, shlD_ok, shrD_ok, addD_str, mulD_str, b_sum_2, b_len_str, b_len_lst, b_len_tup, k_enumT_str, k_enum_lst, okMu_app, okMu_ext, okL_rng1, okL_rng2, andD_int, xorD_int, negD_int, ltD_int, leD_int, gtD_int, geD_int, eqD_int, eqD_str, eqD_bl, neD_int, neD_str, neD_bl, ixL_0, ixL_1, ixL_2, ixL_3, ixT_0, ixT_1, ixT_2, ixT_3, ixN_0, ixN_1, ixN_2, ixN_3, isD_non, isntD_non, isN, b_int_int, b_int_bl, b_max2_int, b_min2_int, b_abs_int, m_count_str, listD_lst, listD_slst, tupD, strD, decide_eq_true_eq, decide_eq_false_iff_not, decide_true, decide_false, eq_self, and_true, true_and, if_true, if_false, Bool.false_eq_true, ↓reduceIte, Nat.reduceAdd, Nat.reduceSub, Nat.reduceLT, ite_true, ite_false, Bool.not_true, Bool.not_false, Int.toNat_natCast, Int.reduceLT, Int.reduceLE, Int.reduceToNat, Int.reduceMul, Int.reduceAdd, Int.reduceSub, Int.reduceEq, Nat.reduceLeDiff, Nat.reduceMul, List.lookup_cons_self, x0, x1, x2, x3, x4, List.mem_cons, List.mem_singleton, nq]
        exact ⟨.inr (.inl trivial), .inl trivial, .inl trivial, .inl trivial, .inl trivial, ⟨by decide, by decide, by decide⟩, _, _, _, _, _, _, _, B2, rfl⟩
    · rintro ρ ⟨d', y2, y3, y4, y5, y6, y7, B', rfl⟩
      have n1 := sh_non (t := "not a valid load, item: ") (by decide +kernel)
      have n2 := sh_non (t := "not a valid list of boxes, item: ") (by decide +kernel)
      have n3 := sh_non (t := "not the text of a load, part: ") (by decide +kernel)
      have q1 : eqD (.lst [.non, .non, .non]) (.lst [[.non], [.non], [.non]].flatten) = some (.bl true) := by kernel_rfl
      have q2 : notinBD (.bl true) (.lst ((List.range 19).map fun _ => .bl false)) = some (.bl true) := by kernel_rfl
      simp (dsimp := false) only [↓okE_Js0, ↓okE_Js, okJ_str, ↓okS_Raise1, ↓okS_RaiseX, ↓okE_Mk0, ↓okE_MkX, addSD_slst, okOx_non, okOx_int, okXf_exc, ↓okE_Xf, ↓okE_Dic, ↓okE_Dead, ↓okS_TryAs, ↓tryK_nx, ↓tryK_rt, isD_exc, ↓okE_Dit, ↓okE_Dii, ↓okE_Disp1, ↓okS_Dput, ↓okE_Dget2, ↓okE_ok, ↓okE_ex, ↓okA_ok, ↓okA_ex, ↓okS_some, okD_some, okN_some, okL_some, okG_some, ↓okE_bind, ↓okE_aBind, ↓okS_bind, ↓okS_aBind, ↓okE_lift, ↓okE_V, ↓okE_C, ↓okE_1, ↓okE_2, ↓okA_nil, ↓okA_cons, ↓okE_B, ↓okE_Tup, ↓okE_Lst, tE2_bl, ↓okE_If, ↓okE_And, ↓okE_Or, nE_bl, ↓okE_Not, okB_some, ↓okE_Tru, cE_bl, ↓okE_Chain, ↓okE_Chain3, ↓okE_callR, ↓okE_Call, okI_ins, ↓okE_Prop, ↓okE_Meth, ↓okE_Make, okFs_ins, ↓okE_Fld, okT_str, ↓okE_Txt, ↓okE_Cel, okRS_str, ↓okE_RevS, ↓okE_RevL, ↓okE_RevT, tupRev_tup, rev_two, bitsD_int, b_gcd_int, b_comb_ok, b_tuple_tup, b_tuple_lst, b_str_str, b_str_int, addD_lst, addD_tup, catD_lst, repD_lst, mulD_lst, k_zip_lst, k_rev_lst, b_list_lst, b_list_tup, okSl_nn, okSl_in, okSl_ni, okSl_ii, ↓okE_Sl, ↓okE_No, okBd_int, ↓okE_Bd, ↓okE_iL, ↓okE_iT, ↓okE_iS, ↓okE_iA, okC_lst, ↓okE_Comp, okMu_some, ↓okE_Mut, ↓seqK_nx, ↓seqK_rt, ↓seqK_ex, ↓seqK_bk, ↓seqK_ct, ↓okS_Seq, ↓okS_Next, ↓okS_Dead, ↓okS_Brk, ↓okS_Ct, ↓okS_RetN, ↓okS_Raise, ↓okS_Ret, ↓okS_Expr, ↓okS_Set, ↓okS_Par, ↓okS_Aug, ↓okS_Asg, ↓okS_If, okX_some, okZ_int, ↓okS_Sub, okFp_ins, ↓okS_Fld, ↓retK_nx, ↓retK_rt, ↓retK_ex, ↓okF_run, okF_val, okF_exc, ↓lpK_nx, ↓lpK_ct, ↓lpK_bk, ↓lpK_rt, ↓lpK_ex, ↓okS_For, List.getElem?_cons_zero, List.getElem?_cons_succ, List.set_cons_zero, List.set_cons_succ, List.map_cons, List.map_nil, List.length_cons, List.length_nil, List.replicate_succ, List.replicate_zero, List.cons_append, List.nil_append, Option.join_some, Option.getD_some, Option.bind_some, Option.map_some, stD_cons, stD_nil, tgtD_nm, tgtD_tp, tgtsD_nil, tgtsD_cons, argD_full, argD_own, argD_root, argD_cel, argD_nil, putC_full, putC_own, putC_root, putC_cel, putC_nil, outs_t, outs_f, outs_nil, subD_int, addD_int, subI_int, addI_int, mulD_ok, modD_ok, divD_ok, pow1018, pow1015, powD_ok, shlD_ok, shrD_ok, addD_str, mulD_str, b_sum_2, b_len_str, b_len_lst, b_len_tup, k_enumT_str, k_enum_lst, okMu_app, okMu_ext, okL_rng1, okL_rng2, andD_int, xorD_int, negD_int, ltD_int, leD_int, gtD_int, geD_int, eqD_int, eqD_str, eqD_bl, neD_int, neD_str, neD_bl, ixL_0, ixL_1, ixL_2, ixL_3, ixT_0, ixT_1, ixT_2, ixT_3, ixN_0, ixN_1, ixN_2, ixN_3, isD_non, isntD_non, isN, b_int_int, b_int_bl, b_max2_int, b_min2_int, b_abs_int, m_count_str, listD_lst, listD_slst, tupD, strD, decide_eq_true_eq, decide_eq_false_iff_not, decide_true, decide_false, eq_self, and_true, true_and, if_true, if_false, Bool.false_eq_true, ↓reduceIte, Nat.reduceAdd, Nat.reduceSub, Nat.reduceLT, ite_true, ite_false, Bool.not_true, Bool.not_false, Int.toNat_natCast, Int.reduceLT, Int.reduceLE, Int.reduceToNat, Int.reduceMul, Int.reduceAdd, Int.reduceSub, Int.reduceEq, Nat.reduceLeDiff, Nat.reduceMul, List.lookup_cons_self, n1, n2, n3, List.mem_cons, List.mem_singleton, q1, q2, base_classes, base_is]
      exact ⟨.inr (.inl trivial), .inl trivial, .inl trivial, by decide, by decide, by decide⟩
  obtain ⟨d, ds, e, rfl⟩ := okF_eq h
  exact ⟨ds, e⟩
end
end
def splaw_any (K : PySem.W.Frag) : Sp := fun vs H Q _ => ∃ (a : Addr) (ns : List Int), vs = [.ref a] ∧ SqL K H a (ns.map V.int) ∧ ns.length ≤ 63 ∧ ∀ H', Q (.bl true) H'
theorem ok_law_any {w : World} {K : PySem.W.Frag} {mg : Str → Option Value} {base : Heap} {Z : Ads} (T : Top K mg Z) : Lk.FnG Z.P_ w K mg base 4 Z.f_law Z.d_law ["script"] (splaw_any K) :=
  law_end (hK := rfl) (ok_law T) law_true
theorem all_mk {l : PySem.W.OpenLaw} {w : World} {K : PySem.W.Frag} {h : Heap} {mg : Str → Option Value} {fa f_law_bag f_law_classes f_law_made f_law_pick f_law C_InvalidBits C_InvalidBox C_InvalidBoxes C_InvalidBudget C_InvalidCell C_InvalidCommand C_InvalidIndex C_InvalidKey C_InvalidLayout C_InvalidLoad C_InvalidNumber C_InvalidOperation C_InvalidSize C_InvalidText C_InvalidWord C_LaceError C_Nothing C_OverBudget C_TooMany C_UnlikeGrids fo_InvalidBoxes cda_InvalidBoxes cc_InvalidBoxes N_InvalidBoxes fo_InvalidLoad cda_InvalidLoad cc_InvalidLoad N_InvalidLoad fo_InvalidText cda_InvalidText cc_InvalidText N_InvalidText fo_OverBudget cda_OverBudget cc_OverBudget N_OverBudget fo_TooMany cda_TooMany cc_TooMany N_TooMany : Addr} (X : K.In h) (G : h.Ns mainGlobals mg) (hfa : mg "law" = some (.ref fa))
    {oc_law_bag kV_law_bag dc_law_bag pm_law_bag cd_law_bag ct_law_bag oc_law_classes kV_law_classes dc_law_classes pm_law_classes cd_law_classes ct_law_classes oc_law_made kV_law_made dc_law_made pm_law_made cd_law_made ct_law_made oc_law_pick kV_law_pick dc_law_pick pm_law_pick cd_law_pick ct_law_pick oc_law kV_law dc_law pm_law cd_law ct_law : Value} {od_law_bag an_law_bag od_law_classes an_law_classes od_law_made an_law_made od_law_pick an_law_pick od_law an_law : Option Addr} {sl_law_bag sl_law_classes sl_law_made sl_law_pick sl_law : Array (Option Value)} {oc_InvalidBoxes kV_InvalidBoxes dc_InvalidBoxes pm_InvalidBoxes ct_InvalidBoxes ccl_InvalidBoxes cl_InvalidBoxes : Value} {od_InvalidBoxes an_InvalidBoxes cdd_InvalidBoxes cld_InvalidBoxes dd_InvalidBoxes : Option Addr} {sl_InvalidBoxes ccs_InvalidBoxes csl_InvalidBoxes : Array (Option Value)} {vs_InvalidBoxes : Array Value} {file_InvalidBoxes nm_InvalidBoxes q_InvalidBoxes : Str} {tf_InvalidBoxes : Tok} {bs_InvalidBoxes bm_InvalidBoxes sub_InvalidBoxes : List Value} {sn_InvalidBoxes : List Str} {ab_InvalidBoxes : Bool} {col_InvalidBoxes : Option Bool} {k0_InvalidBoxes k1_InvalidBoxes k2_InvalidBoxes k3_InvalidBoxes k5_InvalidBoxes : Option Value} {oc_InvalidLoad kV_InvalidLoad dc_InvalidLoad pm_InvalidLoad ct_InvalidLoad ccl_InvalidLoad cl_InvalidLoad : Value} {od_InvalidLoad an_InvalidLoad cdd_InvalidLoad cld_InvalidLoad dd_InvalidLoad : Option Addr} {sl_InvalidLoad ccs_InvalidLoad csl_InvalidLoad : Array (Option Value)} {vs_InvalidLoad : Array Value} {file_InvalidLoad nm_InvalidLoad q_InvalidLoad : Str} {tf_InvalidLoad : Tok} {bs_InvalidLoad bm_InvalidLoad sub_InvalidLoad : List Value} {sn_InvalidLoad : List Str} {ab_InvalidLoad : Bool} {col_InvalidLoad : Option Bool} {k0_InvalidLoad k1_InvalidLoad k2_InvalidLoad k3_InvalidLoad k5_InvalidLoad : Option Value} {oc_InvalidText kV_InvalidText dc_InvalidText pm_InvalidText ct_InvalidText ccl_InvalidText cl_InvalidText : Value} {od_InvalidText an_InvalidText cdd_InvalidText cld_InvalidText dd_InvalidText : Option Addr} {sl_InvalidText ccs_InvalidText csl_InvalidText : Array (Option Value)} {vs_InvalidText : Array Value} {file_InvalidText nm_InvalidText q_InvalidText : Str} {tf_InvalidText : Tok} {bs_InvalidText bm_InvalidText sub_InvalidText : List Value} {sn_InvalidText : List Str} {ab_InvalidText : Bool} {col_InvalidText : Option Bool} {k0_InvalidText k1_InvalidText k2_InvalidText k3_InvalidText k5_InvalidText : Option Value} {oc_OverBudget kV_OverBudget dc_OverBudget pm_OverBudget ct_OverBudget ccl_OverBudget cl_OverBudget : Value} {od_OverBudget an_OverBudget cdd_OverBudget cld_OverBudget dd_OverBudget : Option Addr} {sl_OverBudget ccs_OverBudget csl_OverBudget : Array (Option Value)} {vs_OverBudget : Array Value} {file_OverBudget nm_OverBudget q_OverBudget : Str} {tf_OverBudget : Tok} {bs_OverBudget bm_OverBudget sub_OverBudget : List Value} {sn_OverBudget : List Str} {ab_OverBudget : Bool} {col_OverBudget : Option Bool} {k0_OverBudget k1_OverBudget k2_OverBudget k3_OverBudget k5_OverBudget : Option Value} {oc_TooMany kV_TooMany dc_TooMany pm_TooMany ct_TooMany ccl_TooMany cl_TooMany : Value} {od_TooMany an_TooMany cdd_TooMany cld_TooMany dd_TooMany : Option Addr} {sl_TooMany ccs_TooMany csl_TooMany : Array (Option Value)} {vs_TooMany : Array Value} {file_TooMany nm_TooMany q_TooMany : Str} {tf_TooMany : Tok} {bs_TooMany bm_TooMany sub_TooMany : List Value} {sn_TooMany : List Str} {ab_TooMany : Bool} {col_TooMany : Option Bool} {k0_TooMany k1_TooMany k2_TooMany k3_TooMany k5_TooMany : Option Value}
    (a_law_bag : PySem.W.nsIn K mainGlobals "_law_bag" = some (some (.ref f_law_bag)))
    (l_law_bag : K.lookup f_law_bag = some ⟨oc_law_bag, od_law_bag, .func (PySem.W.fnOf "_law_bag" "_law_bag" (defArgs slaw_bag) (defBody slaw_bag) (defScope slaw_bag) .none kV_law_bag dc_law_bag pm_law_bag an_law_bag cd_law_bag ct_law_bag), sl_law_bag⟩)
    (c_law_bag : PySem.W.codeIn K cd_law_bag "_law_bag" = true)
    (k_law_bag : PySem.W.keepIn K (.ref f_law_bag) = true)
    (a_law_classes : PySem.W.nsIn K mainGlobals "_law_classes" = some (some (.ref f_law_classes)))
    (l_law_classes : K.lookup f_law_classes = some ⟨oc_law_classes, od_law_classes, .func (PySem.W.fnOf "_law_classes" "_law_classes" (defArgs slaw_classes) (defBody slaw_classes) (defScope slaw_classes) .none kV_law_classes dc_law_classes pm_law_classes an_law_classes cd_law_classes ct_law_classes), sl_law_classes⟩)
    (c_law_classes : PySem.W.codeIn K cd_law_classes "_law_classes" = true)
    (k_law_classes : PySem.W.keepIn K (.ref f_law_classes) = true)
    (a_law_made : PySem.W.nsIn K mainGlobals "_law_made" = some (some (.ref f_law_made)))
    (l_law_made : K.lookup f_law_made = some ⟨oc_law_made, od_law_made, .func (PySem.W.fnOf "_law_made" "_law_made" (defArgs slaw_made) (defBody slaw_made) (defScope slaw_made) .none kV_law_made dc_law_made pm_law_made an_law_made cd_law_made ct_law_made), sl_law_made⟩)
    (c_law_made : PySem.W.codeIn K cd_law_made "_law_made" = true)
    (k_law_made : PySem.W.keepIn K (.ref f_law_made) = true)
    (a_law_pick : PySem.W.nsIn K mainGlobals "_law_pick" = some (some (.ref f_law_pick)))
    (l_law_pick : K.lookup f_law_pick = some ⟨oc_law_pick, od_law_pick, .func (PySem.W.fnOf "_law_pick" "_law_pick" (defArgs slaw_pick) (defBody slaw_pick) (defScope slaw_pick) .none kV_law_pick dc_law_pick pm_law_pick an_law_pick cd_law_pick ct_law_pick), sl_law_pick⟩)
    (c_law_pick : PySem.W.codeIn K cd_law_pick "_law_pick" = true)
    (k_law_pick : PySem.W.keepIn K (.ref f_law_pick) = true)
    (a_law : PySem.W.nsIn K mainGlobals "law" = some (some (.ref f_law)))
    (l_law : K.lookup f_law = some ⟨oc_law, od_law, .func (PySem.W.fnOf "law" "law" (defArgs slaw) (defBody slaw) (defScope slaw) .none kV_law dc_law pm_law an_law cd_law ct_law), sl_law⟩)
    (c_law : PySem.W.codeIn K cd_law "law" = true)
    (k_law : PySem.W.keepIn K (.ref f_law) = true)
    (a_InvalidBits : PySem.W.nsIn K mainGlobals "InvalidBits" = some (some (.ref C_InvalidBits)))
    (a_InvalidBox : PySem.W.nsIn K mainGlobals "InvalidBox" = some (some (.ref C_InvalidBox)))
    (a_InvalidBoxes : PySem.W.nsIn K mainGlobals "InvalidBoxes" = some (some (.ref C_InvalidBoxes)))
    (a_InvalidBudget : PySem.W.nsIn K mainGlobals "InvalidBudget" = some (some (.ref C_InvalidBudget)))
    (a_InvalidCell : PySem.W.nsIn K mainGlobals "InvalidCell" = some (some (.ref C_InvalidCell)))
    (a_InvalidCommand : PySem.W.nsIn K mainGlobals "InvalidCommand" = some (some (.ref C_InvalidCommand)))
    (a_InvalidIndex : PySem.W.nsIn K mainGlobals "InvalidIndex" = some (some (.ref C_InvalidIndex)))
    (a_InvalidKey : PySem.W.nsIn K mainGlobals "InvalidKey" = some (some (.ref C_InvalidKey)))
    (a_InvalidLayout : PySem.W.nsIn K mainGlobals "InvalidLayout" = some (some (.ref C_InvalidLayout)))
    (a_InvalidLoad : PySem.W.nsIn K mainGlobals "InvalidLoad" = some (some (.ref C_InvalidLoad)))
    (a_InvalidNumber : PySem.W.nsIn K mainGlobals "InvalidNumber" = some (some (.ref C_InvalidNumber)))
    (a_InvalidOperation : PySem.W.nsIn K mainGlobals "InvalidOperation" = some (some (.ref C_InvalidOperation)))
    (a_InvalidSize : PySem.W.nsIn K mainGlobals "InvalidSize" = some (some (.ref C_InvalidSize)))
    (a_InvalidText : PySem.W.nsIn K mainGlobals "InvalidText" = some (some (.ref C_InvalidText)))
    (a_InvalidWord : PySem.W.nsIn K mainGlobals "InvalidWord" = some (some (.ref C_InvalidWord)))
    (a_LaceError : PySem.W.nsIn K mainGlobals "LaceError" = some (some (.ref C_LaceError)))
    (a_Nothing : PySem.W.nsIn K mainGlobals "Nothing" = some (some (.ref C_Nothing)))
    (a_OverBudget : PySem.W.nsIn K mainGlobals "OverBudget" = some (some (.ref C_OverBudget)))
    (a_TooMany : PySem.W.nsIn K mainGlobals "TooMany" = some (some (.ref C_TooMany)))
    (a_UnlikeGrids : PySem.W.nsIn K mainGlobals "UnlikeGrids" = some (some (.ref C_UnlikeGrids)))
    (x_InvalidBits : PySem.W.excIn K C_InvalidBits [.type "ValueError", .type "Exception", .type "BaseException", .type "object"] "ValueError.__new__" = true)
    (k_InvalidBits : PySem.W.keepIn K (.ref C_InvalidBits) = true)
    (rb_InvalidBits : PySem.W.subIn K (.ref C_InvalidBits) (.type "BaseException") = some true)
    (rt_InvalidBits : PySem.W.typeIn K (.ref C_InvalidBits) = some (.type "type"))
    (ea_InvalidBits : PySem.W.findIn K (.ref C_InvalidBits) "__getattribute__" = some (some (.builtin "BaseException.__getattribute__")))
    (eb_InvalidBits : PySem.W.findIn K (.ref C_InvalidBits) "__getattr__" = some none)
    (ec_InvalidBits : PySem.W.hasDictIn K C_InvalidBits = true)
    (ed_InvalidBits : PySem.W.findIn K (.ref C_InvalidBits) "__class__" = some (some (.builtin "object.__class__")))
    (ee_InvalidBits : PySem.W.mroIn K C_InvalidBits (.type "object") = some true)
    (x_InvalidBox : PySem.W.excIn K C_InvalidBox [.type "ValueError", .type "Exception", .type "BaseException", .type "object"] "ValueError.__new__" = true)
    (k_InvalidBox : PySem.W.keepIn K (.ref C_InvalidBox) = true)
    (rb_InvalidBox : PySem.W.subIn K (.ref C_InvalidBox) (.type "BaseException") = some true)
    (rt_InvalidBox : PySem.W.typeIn K (.ref C_InvalidBox) = some (.type "type"))
    (ea_InvalidBox : PySem.W.findIn K (.ref C_InvalidBox) "__getattribute__" = some (some (.builtin "BaseException.__getattribute__")))
    (eb_InvalidBox : PySem.W.findIn K (.ref C_InvalidBox) "__getattr__" = some none)
    (ec_InvalidBox : PySem.W.hasDictIn K C_InvalidBox = true)
    (ed_InvalidBox : PySem.W.findIn K (.ref C_InvalidBox) "__class__" = some (some (.builtin "object.__class__")))
    (ee_InvalidBox : PySem.W.mroIn K C_InvalidBox (.type "object") = some true)
    (k_InvalidBoxes : PySem.W.keepIn K (.ref C_InvalidBoxes) = true)
    (rb_InvalidBoxes : PySem.W.subIn K (.ref C_InvalidBoxes) (.type "BaseException") = some true)
    (rt_InvalidBoxes : PySem.W.typeIn K (.ref C_InvalidBoxes) = some (.type "type"))
    (ea_InvalidBoxes : PySem.W.findIn K (.ref C_InvalidBoxes) "__getattribute__" = some (some (.builtin "BaseException.__getattribute__")))
    (eb_InvalidBoxes : PySem.W.findIn K (.ref C_InvalidBoxes) "__getattr__" = some none)
    (ec_InvalidBoxes : PySem.W.hasDictIn K C_InvalidBoxes = true)
    (ed_InvalidBoxes : PySem.W.findIn K (.ref C_InvalidBoxes) "__class__" = some (some (.builtin "object.__class__")))
    (ee_InvalidBoxes : PySem.W.mroIn K C_InvalidBoxes (.type "object") = some true)
    (x_InvalidBudget : PySem.W.excIn K C_InvalidBudget [.type "ValueError", .type "Exception", .type "BaseException", .type "object"] "ValueError.__new__" = true)
    (k_InvalidBudget : PySem.W.keepIn K (.ref C_InvalidBudget) = true)
    (rb_InvalidBudget : PySem.W.subIn K (.ref C_InvalidBudget) (.type "BaseException") = some true)
    (rt_InvalidBudget : PySem.W.typeIn K (.ref C_InvalidBudget) = some (.type "type"))
    (ea_InvalidBudget : PySem.W.findIn K (.ref C_InvalidBudget) "__getattribute__" = some (some (.builtin "BaseException.__getattribute__")))
    (eb_InvalidBudget : PySem.W.findIn K (.ref C_InvalidBudget) "__getattr__" = some none)
    (ec_InvalidBudget : PySem.W.hasDictIn K C_InvalidBudget = true)
    (ed_InvalidBudget : PySem.W.findIn K (.ref C_InvalidBudget) "__class__" = some (some (.builtin "object.__class__")))
    (ee_InvalidBudget : PySem.W.mroIn K C_InvalidBudget (.type "object") = some true)
    (x_InvalidCell : PySem.W.excIn K C_InvalidCell [.type "ValueError", .type "Exception", .type "BaseException", .type "object"] "ValueError.__new__" = true)
    (k_InvalidCell : PySem.W.keepIn K (.ref C_InvalidCell) = true)
    (rb_InvalidCell : PySem.W.subIn K (.ref C_InvalidCell) (.type "BaseException") = some true)
    (rt_InvalidCell : PySem.W.typeIn K (.ref C_InvalidCell) = some (.type "type"))
    (ea_InvalidCell : PySem.W.findIn K (.ref C_InvalidCell) "__getattribute__" = some (some (.builtin "BaseException.__getattribute__")))
    (eb_InvalidCell : PySem.W.findIn K (.ref C_InvalidCell) "__getattr__" = some none)
    (ec_InvalidCell : PySem.W.hasDictIn K C_InvalidCell = true)
    (ed_InvalidCell : PySem.W.findIn K (.ref C_InvalidCell) "__class__" = some (some (.builtin "object.__class__")))
    (ee_InvalidCell : PySem.W.mroIn K C_InvalidCell (.type "object") = some true)
    (x_InvalidCommand : PySem.W.excIn K C_InvalidCommand [.type "ValueError", .type "Exception", .type "BaseException", .type "object"] "ValueError.__new__" = true)
    (k_InvalidCommand : PySem.W.keepIn K (.ref C_InvalidCommand) = true)
    (rb_InvalidCommand : PySem.W.subIn K (.ref C_InvalidCommand) (.type "BaseException") = some true)
    (rt_InvalidCommand : PySem.W.typeIn K (.ref C_InvalidCommand) = some (.type "type"))
    (ea_InvalidCommand : PySem.W.findIn K (.ref C_InvalidCommand) "__getattribute__" = some (some (.builtin "BaseException.__getattribute__")))
    (eb_InvalidCommand : PySem.W.findIn K (.ref C_InvalidCommand) "__getattr__" = some none)
    (ec_InvalidCommand : PySem.W.hasDictIn K C_InvalidCommand = true)
    (ed_InvalidCommand : PySem.W.findIn K (.ref C_InvalidCommand) "__class__" = some (some (.builtin "object.__class__")))
    (ee_InvalidCommand : PySem.W.mroIn K C_InvalidCommand (.type "object") = some true)
    (x_InvalidIndex : PySem.W.excIn K C_InvalidIndex [.type "ValueError", .type "Exception", .type "BaseException", .type "object"] "ValueError.__new__" = true)
    (k_InvalidIndex : PySem.W.keepIn K (.ref C_InvalidIndex) = true)
    (rb_InvalidIndex : PySem.W.subIn K (.ref C_InvalidIndex) (.type "BaseException") = some true)
    (rt_InvalidIndex : PySem.W.typeIn K (.ref C_InvalidIndex) = some (.type "type"))
    (ea_InvalidIndex : PySem.W.findIn K (.ref C_InvalidIndex) "__getattribute__" = some (some (.builtin "BaseException.__getattribute__")))
    (eb_InvalidIndex : PySem.W.findIn K (.ref C_InvalidIndex) "__getattr__" = some none)
    (ec_InvalidIndex : PySem.W.hasDictIn K C_InvalidIndex = true)
    (ed_InvalidIndex : PySem.W.findIn K (.ref C_InvalidIndex) "__class__" = some (some (.builtin "object.__class__")))
    (ee_InvalidIndex : PySem.W.mroIn K C_InvalidIndex (.type "object") = some true)
    (x_InvalidKey : PySem.W.excIn K C_InvalidKey [.type "ValueError", .type "Exception", .type "BaseException", .type "object"] "ValueError.__new__" = true)
    (k_InvalidKey : PySem.W.keepIn K (.ref C_InvalidKey) = true)
    (rb_InvalidKey : PySem.W.subIn K (.ref C_InvalidKey) (.type "BaseException") = some true)
    (rt_InvalidKey : PySem.W.typeIn K (.ref C_InvalidKey) = some (.type "type"))
    (ea_InvalidKey : PySem.W.findIn K (.ref C_InvalidKey) "__getattribute__" = some (some (.builtin "BaseException.__getattribute__")))
    (eb_InvalidKey : PySem.W.findIn K (.ref C_InvalidKey) "__getattr__" = some none)
    (ec_InvalidKey : PySem.W.hasDictIn K C_InvalidKey = true)
    (ed_InvalidKey : PySem.W.findIn K (.ref C_InvalidKey) "__class__" = some (some (.builtin "object.__class__")))
    (ee_InvalidKey : PySem.W.mroIn K C_InvalidKey (.type "object") = some true)
    (x_InvalidLayout : PySem.W.excIn K C_InvalidLayout [.type "ValueError", .type "Exception", .type "BaseException", .type "object"] "ValueError.__new__" = true)
    (k_InvalidLayout : PySem.W.keepIn K (.ref C_InvalidLayout) = true)
    (rb_InvalidLayout : PySem.W.subIn K (.ref C_InvalidLayout) (.type "BaseException") = some true)
    (rt_InvalidLayout : PySem.W.typeIn K (.ref C_InvalidLayout) = some (.type "type"))
    (ea_InvalidLayout : PySem.W.findIn K (.ref C_InvalidLayout) "__getattribute__" = some (some (.builtin "BaseException.__getattribute__")))
    (eb_InvalidLayout : PySem.W.findIn K (.ref C_InvalidLayout) "__getattr__" = some none)
    (ec_InvalidLayout : PySem.W.hasDictIn K C_InvalidLayout = true)
    (ed_InvalidLayout : PySem.W.findIn K (.ref C_InvalidLayout) "__class__" = some (some (.builtin "object.__class__")))
    (ee_InvalidLayout : PySem.W.mroIn K C_InvalidLayout (.type "object") = some true)
    (k_InvalidLoad : PySem.W.keepIn K (.ref C_InvalidLoad) = true)
    (rb_InvalidLoad : PySem.W.subIn K (.ref C_InvalidLoad) (.type "BaseException") = some true)
    (rt_InvalidLoad : PySem.W.typeIn K (.ref C_InvalidLoad) = some (.type "type"))
    (ea_InvalidLoad : PySem.W.findIn K (.ref C_InvalidLoad) "__getattribute__" = some (some (.builtin "BaseException.__getattribute__")))
    (eb_InvalidLoad : PySem.W.findIn K (.ref C_InvalidLoad) "__getattr__" = some none)
    (ec_InvalidLoad : PySem.W.hasDictIn K C_InvalidLoad = true)
    (ed_InvalidLoad : PySem.W.findIn K (.ref C_InvalidLoad) "__class__" = some (some (.builtin "object.__class__")))
    (ee_InvalidLoad : PySem.W.mroIn K C_InvalidLoad (.type "object") = some true)
    (x_InvalidNumber : PySem.W.excIn K C_InvalidNumber [.type "ValueError", .type "Exception", .type "BaseException", .type "object"] "ValueError.__new__" = true)
    (k_InvalidNumber : PySem.W.keepIn K (.ref C_InvalidNumber) = true)
    (rb_InvalidNumber : PySem.W.subIn K (.ref C_InvalidNumber) (.type "BaseException") = some true)
    (rt_InvalidNumber : PySem.W.typeIn K (.ref C_InvalidNumber) = some (.type "type"))
    (ea_InvalidNumber : PySem.W.findIn K (.ref C_InvalidNumber) "__getattribute__" = some (some (.builtin "BaseException.__getattribute__")))
    (eb_InvalidNumber : PySem.W.findIn K (.ref C_InvalidNumber) "__getattr__" = some none)
    (ec_InvalidNumber : PySem.W.hasDictIn K C_InvalidNumber = true)
    (ed_InvalidNumber : PySem.W.findIn K (.ref C_InvalidNumber) "__class__" = some (some (.builtin "object.__class__")))
    (ee_InvalidNumber : PySem.W.mroIn K C_InvalidNumber (.type "object") = some true)
    (x_InvalidOperation : PySem.W.excIn K C_InvalidOperation [.type "ValueError", .type "Exception", .type "BaseException", .type "object"] "ValueError.__new__" = true)
    (k_InvalidOperation : PySem.W.keepIn K (.ref C_InvalidOperation) = true)
    (rb_InvalidOperation : PySem.W.subIn K (.ref C_InvalidOperation) (.type "BaseException") = some true)
    (rt_InvalidOperation : PySem.W.typeIn K (.ref C_InvalidOperation) = some (.type "type"))
    (ea_InvalidOperation : PySem.W.findIn K (.ref C_InvalidOperation) "__getattribute__" = some (some (.builtin "BaseException.__getattribute__")))
    (eb_InvalidOperation : PySem.W.findIn K (.ref C_InvalidOperation) "__getattr__" = some none)
    (ec_InvalidOperation : PySem.W.hasDictIn K C_InvalidOperation = true)
    (ed_InvalidOperation : PySem.W.findIn K (.ref C_InvalidOperation) "__class__" = some (some (.builtin "object.__class__")))
    (ee_InvalidOperation : PySem.W.mroIn K C_InvalidOperation (.type "object") = some true)
    (x_InvalidSize : PySem.W.excIn K C_InvalidSize [.type "ValueError", .type "Exception", .type "BaseException", .type "object"] "ValueError.__new__" = true)
    (k_InvalidSize : PySem.W.keepIn K (.ref C_InvalidSize) = true)
    (rb_InvalidSize : PySem.W.subIn K (.ref C_InvalidSize) (.type "BaseException") = some true)
    (rt_InvalidSize : PySem.W.typeIn K (.ref C_InvalidSize) = some (.type "type"))
    (ea_InvalidSize : PySem.W.findIn K (.ref C_InvalidSize) "__getattribute__" = some (some (.builtin "BaseException.__getattribute__")))
    (eb_InvalidSize : PySem.W.findIn K (.ref C_InvalidSize) "__getattr__" = some none)
    (ec_InvalidSize : PySem.W.hasDictIn K C_InvalidSize = true)
    (ed_InvalidSize : PySem.W.findIn K (.ref C_InvalidSize) "__class__" = some (some (.builtin "object.__class__")))
    (ee_InvalidSize : PySem.W.mroIn K C_InvalidSize (.type "object") = some true)
    (k_InvalidText : PySem.W.keepIn K (.ref C_InvalidText) = true)
    (rb_InvalidText : PySem.W.subIn K (.ref C_InvalidText) (.type "BaseException") = some true)
    (rt_InvalidText : PySem.W.typeIn K (.ref C_InvalidText) = some (.type "type"))
    (ea_InvalidText : PySem.W.findIn K (.ref C_InvalidText) "__getattribute__" = some (some (.builtin "BaseException.__getattribute__")))
    (eb_InvalidText : PySem.W.findIn K (.ref C_InvalidText) "__getattr__" = some none)
    (ec_InvalidText : PySem.W.hasDictIn K C_InvalidText = true)
    (ed_InvalidText : PySem.W.findIn K (.ref C_InvalidText) "__class__" = some (some (.builtin "object.__class__")))
    (ee_InvalidText : PySem.W.mroIn K C_InvalidText (.type "object") = some true)
    (x_InvalidWord : PySem.W.excIn K C_InvalidWord [.type "ValueError", .type "Exception", .type "BaseException", .type "object"] "ValueError.__new__" = true)
    (k_InvalidWord : PySem.W.keepIn K (.ref C_InvalidWord) = true)
    (rb_InvalidWord : PySem.W.subIn K (.ref C_InvalidWord) (.type "BaseException") = some true)
    (rt_InvalidWord : PySem.W.typeIn K (.ref C_InvalidWord) = some (.type "type"))
    (ea_InvalidWord : PySem.W.findIn K (.ref C_InvalidWord) "__getattribute__" = some (some (.builtin "BaseException.__getattribute__")))
    (eb_InvalidWord : PySem.W.findIn K (.ref C_InvalidWord) "__getattr__" = some none)
    (ec_InvalidWord : PySem.W.hasDictIn K C_InvalidWord = true)
    (ed_InvalidWord : PySem.W.findIn K (.ref C_InvalidWord) "__class__" = some (some (.builtin "object.__class__")))
    (ee_InvalidWord : PySem.W.mroIn K C_InvalidWord (.type "object") = some true)
    (x_LaceError : PySem.W.excIn K C_LaceError [.type "ValueError", .type "Exception", .type "BaseException", .type "object"] "ValueError.__new__" = true)
    (k_LaceError : PySem.W.keepIn K (.ref C_LaceError) = true)
    (rb_LaceError : PySem.W.subIn K (.ref C_LaceError) (.type "BaseException") = some true)
    (rt_LaceError : PySem.W.typeIn K (.ref C_LaceError) = some (.type "type"))
    (ea_LaceError : PySem.W.findIn K (.ref C_LaceError) "__getattribute__" = some (some (.builtin "BaseException.__getattribute__")))
    (eb_LaceError : PySem.W.findIn K (.ref C_LaceError) "__getattr__" = some none)
    (ec_LaceError : PySem.W.hasDictIn K C_LaceError = true)
    (ed_LaceError : PySem.W.findIn K (.ref C_LaceError) "__class__" = some (some (.builtin "object.__class__")))
    (ee_LaceError : PySem.W.mroIn K C_LaceError (.type "object") = some true)
    (x_Nothing : PySem.W.excIn K C_Nothing [.type "ValueError", .type "Exception", .type "BaseException", .type "object"] "ValueError.__new__" = true)
    (k_Nothing : PySem.W.keepIn K (.ref C_Nothing) = true)
    (rb_Nothing : PySem.W.subIn K (.ref C_Nothing) (.type "BaseException") = some true)
    (rt_Nothing : PySem.W.typeIn K (.ref C_Nothing) = some (.type "type"))
    (ea_Nothing : PySem.W.findIn K (.ref C_Nothing) "__getattribute__" = some (some (.builtin "BaseException.__getattribute__")))
    (eb_Nothing : PySem.W.findIn K (.ref C_Nothing) "__getattr__" = some none)
    (ec_Nothing : PySem.W.hasDictIn K C_Nothing = true)
    (ed_Nothing : PySem.W.findIn K (.ref C_Nothing) "__class__" = some (some (.builtin "object.__class__")))
    (ee_Nothing : PySem.W.mroIn K C_Nothing (.type "object") = some true)
    (k_OverBudget : PySem.W.keepIn K (.ref C_OverBudget) = true)
    (rb_OverBudget : PySem.W.subIn K (.ref C_OverBudget) (.type "BaseException") = some true)
    (rt_OverBudget : PySem.W.typeIn K (.ref C_OverBudget) = some (.type "type"))
    (ea_OverBudget : PySem.W.findIn K (.ref C_OverBudget) "__getattribute__" = some (some (.builtin "BaseException.__getattribute__")))
    (eb_OverBudget : PySem.W.findIn K (.ref C_OverBudget) "__getattr__" = some none)
    (ec_OverBudget : PySem.W.hasDictIn K C_OverBudget = true)
    (ed_OverBudget : PySem.W.findIn K (.ref C_OverBudget) "__class__" = some (some (.builtin "object.__class__")))
    (ee_OverBudget : PySem.W.mroIn K C_OverBudget (.type "object") = some true)
    (k_TooMany : PySem.W.keepIn K (.ref C_TooMany) = true)
    (rb_TooMany : PySem.W.subIn K (.ref C_TooMany) (.type "BaseException") = some true)
    (rt_TooMany : PySem.W.typeIn K (.ref C_TooMany) = some (.type "type"))
    (ea_TooMany : PySem.W.findIn K (.ref C_TooMany) "__getattribute__" = some (some (.builtin "BaseException.__getattribute__")))
    (eb_TooMany : PySem.W.findIn K (.ref C_TooMany) "__getattr__" = some none)
    (ec_TooMany : PySem.W.hasDictIn K C_TooMany = true)
    (ed_TooMany : PySem.W.findIn K (.ref C_TooMany) "__class__" = some (some (.builtin "object.__class__")))
    (ee_TooMany : PySem.W.mroIn K C_TooMany (.type "object") = some true)
    (x_UnlikeGrids : PySem.W.excIn K C_UnlikeGrids [.type "ValueError", .type "Exception", .type "BaseException", .type "object"] "ValueError.__new__" = true)
    (k_UnlikeGrids : PySem.W.keepIn K (.ref C_UnlikeGrids) = true)
    (rb_UnlikeGrids : PySem.W.subIn K (.ref C_UnlikeGrids) (.type "BaseException") = some true)
    (rt_UnlikeGrids : PySem.W.typeIn K (.ref C_UnlikeGrids) = some (.type "type"))
    (ea_UnlikeGrids : PySem.W.findIn K (.ref C_UnlikeGrids) "__getattribute__" = some (some (.builtin "BaseException.__getattribute__")))
    (eb_UnlikeGrids : PySem.W.findIn K (.ref C_UnlikeGrids) "__getattr__" = some none)
    (ec_UnlikeGrids : PySem.W.hasDictIn K C_UnlikeGrids = true)
    (ed_UnlikeGrids : PySem.W.findIn K (.ref C_UnlikeGrids) "__class__" = some (some (.builtin "object.__class__")))
    (ee_UnlikeGrids : PySem.W.mroIn K C_UnlikeGrids (.type "object") = some true)
    (e_get : PySem.W.specialIn K (.builtin "object.__class__") "__get__" = some (some (.builtin "getset_descriptor.__get__")))
    (e_tak : PySem.W.takesIn K (.builtin "object.__class__") = some true)
    (qm_InvalidBox_InvalidBits : PySem.W.mroIn K C_InvalidBox (.ref C_InvalidBits) = some false)
    (qm_InvalidBoxes_InvalidBits : PySem.W.mroIn K C_InvalidBoxes (.ref C_InvalidBits) = some false)
    (qm_InvalidBudget_InvalidBits : PySem.W.mroIn K C_InvalidBudget (.ref C_InvalidBits) = some false)
    (qm_InvalidCell_InvalidBits : PySem.W.mroIn K C_InvalidCell (.ref C_InvalidBits) = some false)
    (qm_InvalidCommand_InvalidBits : PySem.W.mroIn K C_InvalidCommand (.ref C_InvalidBits) = some false)
    (qm_InvalidIndex_InvalidBits : PySem.W.mroIn K C_InvalidIndex (.ref C_InvalidBits) = some false)
    (qm_InvalidKey_InvalidBits : PySem.W.mroIn K C_InvalidKey (.ref C_InvalidBits) = some false)
    (qm_InvalidLayout_InvalidBits : PySem.W.mroIn K C_InvalidLayout (.ref C_InvalidBits) = some false)
    (qm_InvalidLoad_InvalidBits : PySem.W.mroIn K C_InvalidLoad (.ref C_InvalidBits) = some false)
    (qm_InvalidNumber_InvalidBits : PySem.W.mroIn K C_InvalidNumber (.ref C_InvalidBits) = some false)
    (qm_InvalidOperation_InvalidBits : PySem.W.mroIn K C_InvalidOperation (.ref C_InvalidBits) = some false)
    (qm_InvalidSize_InvalidBits : PySem.W.mroIn K C_InvalidSize (.ref C_InvalidBits) = some false)
    (qm_InvalidText_InvalidBits : PySem.W.mroIn K C_InvalidText (.ref C_InvalidBits) = some false)
    (qm_InvalidWord_InvalidBits : PySem.W.mroIn K C_InvalidWord (.ref C_InvalidBits) = some false)
    (qm_LaceError_InvalidBits : PySem.W.mroIn K C_LaceError (.ref C_InvalidBits) = some false)
    (qm_Nothing_InvalidBits : PySem.W.mroIn K C_Nothing (.ref C_InvalidBits) = some false)
    (qm_OverBudget_InvalidBits : PySem.W.mroIn K C_OverBudget (.ref C_InvalidBits) = some false)
    (qm_TooMany_InvalidBits : PySem.W.mroIn K C_TooMany (.ref C_InvalidBits) = some false)
    (qm_UnlikeGrids_InvalidBits : PySem.W.mroIn K C_UnlikeGrids (.ref C_InvalidBits) = some false)
    (ks_InvalidBits : PySem.W.mroIn K C_InvalidBits (.ref C_InvalidBits) = some true)
    (ky_InvalidBits : PySem.W.typeIn K (.ref C_InvalidBits) = some (.type "type"))
    (qm_InvalidBits_InvalidBox : PySem.W.mroIn K C_InvalidBits (.ref C_InvalidBox) = some false)
    (qm_InvalidBoxes_InvalidBox : PySem.W.mroIn K C_InvalidBoxes (.ref C_InvalidBox) = some false)
    (qm_InvalidBudget_InvalidBox : PySem.W.mroIn K C_InvalidBudget (.ref C_InvalidBox) = some false)
    (qm_InvalidCell_InvalidBox : PySem.W.mroIn K C_InvalidCell (.ref C_InvalidBox) = some false)
    (qm_InvalidCommand_InvalidBox : PySem.W.mroIn K C_InvalidCommand (.ref C_InvalidBox) = some false)
    (qm_InvalidIndex_InvalidBox : PySem.W.mroIn K C_InvalidIndex (.ref C_InvalidBox) = some false)
    (qm_InvalidKey_InvalidBox : PySem.W.mroIn K C_InvalidKey (.ref C_InvalidBox) = some false)
    (qm_InvalidLayout_InvalidBox : PySem.W.mroIn K C_InvalidLayout (.ref C_InvalidBox) = some false)
    (qm_InvalidLoad_InvalidBox : PySem.W.mroIn K C_InvalidLoad (.ref C_InvalidBox) = some false)
    (qm_InvalidNumber_InvalidBox : PySem.W.mroIn K C_InvalidNumber (.ref C_InvalidBox) = some false)
    (qm_InvalidOperation_InvalidBox : PySem.W.mroIn K C_InvalidOperation (.ref C_InvalidBox) = some false)
    (qm_InvalidSize_InvalidBox : PySem.W.mroIn K C_InvalidSize (.ref C_InvalidBox) = some false)
    (qm_InvalidText_InvalidBox : PySem.W.mroIn K C_InvalidText (.ref C_InvalidBox) = some false)
    (qm_InvalidWord_InvalidBox : PySem.W.mroIn K C_InvalidWord (.ref C_InvalidBox) = some false)
    (qm_LaceError_InvalidBox : PySem.W.mroIn K C_LaceError (.ref C_InvalidBox) = some false)
    (qm_Nothing_InvalidBox : PySem.W.mroIn K C_Nothing (.ref C_InvalidBox) = some false)
    (qm_OverBudget_InvalidBox : PySem.W.mroIn K C_OverBudget (.ref C_InvalidBox) = some false)
    (qm_TooMany_InvalidBox : PySem.W.mroIn K C_TooMany (.ref C_InvalidBox) = some false)
    (qm_UnlikeGrids_InvalidBox : PySem.W.mroIn K C_UnlikeGrids (.ref C_InvalidBox) = some false)
    (ks_InvalidBox : PySem.W.mroIn K C_InvalidBox (.ref C_InvalidBox) = some true)
    (ky_InvalidBox : PySem.W.typeIn K (.ref C_InvalidBox) = some (.type "type"))
    (qm_InvalidBits_InvalidBoxes : PySem.W.mroIn K C_InvalidBits (.ref C_InvalidBoxes) = some false)
    (qm_InvalidBox_InvalidBoxes : PySem.W.mroIn K C_InvalidBox (.ref C_InvalidBoxes) = some false)
    (qm_InvalidBudget_InvalidBoxes : PySem.W.mroIn K C_InvalidBudget (.ref C_InvalidBoxes) = some false)
    (qm_InvalidCell_InvalidBoxes : PySem.W.mroIn K C_InvalidCell (.ref C_InvalidBoxes) = some false)
    (qm_InvalidCommand_InvalidBoxes : PySem.W.mroIn K C_InvalidCommand (.ref C_InvalidBoxes) = some false)
    (qm_InvalidIndex_InvalidBoxes : PySem.W.mroIn K C_InvalidIndex (.ref C_InvalidBoxes) = some false)
    (qm_InvalidKey_InvalidBoxes : PySem.W.mroIn K C_InvalidKey (.ref C_InvalidBoxes) = some false)
    (qm_InvalidLayout_InvalidBoxes : PySem.W.mroIn K C_InvalidLayout (.ref C_InvalidBoxes) = some false)
    (qm_InvalidLoad_InvalidBoxes : PySem.W.mroIn K C_InvalidLoad (.ref C_InvalidBoxes) = some false)
    (qm_InvalidNumber_InvalidBoxes : PySem.W.mroIn K C_InvalidNumber (.ref C_InvalidBoxes) = some false)
    (qm_InvalidOperation_InvalidBoxes : PySem.W.mroIn K C_InvalidOperation (.ref C_InvalidBoxes) = some false)
    (qm_InvalidSize_InvalidBoxes : PySem.W.mroIn K C_InvalidSize (.ref C_InvalidBoxes) = some false)
    (qm_InvalidText_InvalidBoxes : PySem.W.mroIn K C_InvalidText (.ref C_InvalidBoxes) = some false)
    (qm_InvalidWord_InvalidBoxes : PySem.W.mroIn K C_InvalidWord (.ref C_InvalidBoxes) = some false)
    (qm_LaceError_InvalidBoxes : PySem.W.mroIn K C_LaceError (.ref C_InvalidBoxes) = some false)
    (qm_Nothing_InvalidBoxes : PySem.W.mroIn K C_Nothing (.ref C_InvalidBoxes) = some false)
    (qm_OverBudget_InvalidBoxes : PySem.W.mroIn K C_OverBudget (.ref C_InvalidBoxes) = some false)
    (qm_TooMany_InvalidBoxes : PySem.W.mroIn K C_TooMany (.ref C_InvalidBoxes) = some false)
    (qm_UnlikeGrids_InvalidBoxes : PySem.W.mroIn K C_UnlikeGrids (.ref C_InvalidBoxes) = some false)
    (ks_InvalidBoxes : PySem.W.mroIn K C_InvalidBoxes (.ref C_InvalidBoxes) = some true)
    (ky_InvalidBoxes : PySem.W.typeIn K (.ref C_InvalidBoxes) = some (.type "type"))
    (qm_InvalidBits_InvalidBudget : PySem.W.mroIn K C_InvalidBits (.ref C_InvalidBudget) = some false)
    (qm_InvalidBox_InvalidBudget : PySem.W.mroIn K C_InvalidBox (.ref C_InvalidBudget) = some false)
    (qm_InvalidBoxes_InvalidBudget : PySem.W.mroIn K C_InvalidBoxes (.ref C_InvalidBudget) = some false)
    (qm_InvalidCell_InvalidBudget : PySem.W.mroIn K C_InvalidCell (.ref C_InvalidBudget) = some false)
    (qm_InvalidCommand_InvalidBudget : PySem.W.mroIn K C_InvalidCommand (.ref C_InvalidBudget) = some false)
    (qm_InvalidIndex_InvalidBudget : PySem.W.mroIn K C_InvalidIndex (.ref C_InvalidBudget) = some false)
    (qm_InvalidKey_InvalidBudget : PySem.W.mroIn K C_InvalidKey (.ref C_InvalidBudget) = some false)
    (qm_InvalidLayout_InvalidBudget : PySem.W.mroIn K C_InvalidLayout (.ref C_InvalidBudget) = some false)
    (qm_InvalidLoad_InvalidBudget : PySem.W.mroIn K C_InvalidLoad (.ref C_InvalidBudget) = some false)
    (qm_InvalidNumber_InvalidBudget : PySem.W.mroIn K C_InvalidNumber (.ref C_InvalidBudget) = some false)
    (qm_InvalidOperation_InvalidBudget : PySem.W.mroIn K C_InvalidOperation (.ref C_InvalidBudget) = some false)
    (qm_InvalidSize_InvalidBudget : PySem.W.mroIn K C_InvalidSize (.ref C_InvalidBudget) = some false)
    (qm_InvalidText_InvalidBudget : PySem.W.mroIn K C_InvalidText (.ref C_InvalidBudget) = some false)
    (qm_InvalidWord_InvalidBudget : PySem.W.mroIn K C_InvalidWord (.ref C_InvalidBudget) = some false)
    (qm_LaceError_InvalidBudget : PySem.W.mroIn K C_LaceError (.ref C_InvalidBudget) = some false)
    (qm_Nothing_InvalidBudget : PySem.W.mroIn K C_Nothing (.ref C_InvalidBudget) = some false)
    (qm_OverBudget_InvalidBudget : PySem.W.mroIn K C_OverBudget (.ref C_InvalidBudget) = some false)
    (qm_TooMany_InvalidBudget : PySem.W.mroIn K C_TooMany (.ref C_InvalidBudget) = some false)
    (qm_UnlikeGrids_InvalidBudget : PySem.W.mroIn K C_UnlikeGrids (.ref C_InvalidBudget) = some false)
    (ks_InvalidBudget : PySem.W.mroIn K C_InvalidBudget (.ref C_InvalidBudget) = some true)
    (ky_InvalidBudget : PySem.W.typeIn K (.ref C_InvalidBudget) = some (.type "type"))
    (qm_InvalidBits_InvalidCell : PySem.W.mroIn K C_InvalidBits (.ref C_InvalidCell) = some false)
    (qm_InvalidBox_InvalidCell : PySem.W.mroIn K C_InvalidBox (.ref C_InvalidCell) = some false)
    (qm_InvalidBoxes_InvalidCell : PySem.W.mroIn K C_InvalidBoxes (.ref C_InvalidCell) = some false)
    (qm_InvalidBudget_InvalidCell : PySem.W.mroIn K C_InvalidBudget (.ref C_InvalidCell) = some false)
    (qm_InvalidCommand_InvalidCell : PySem.W.mroIn K C_InvalidCommand (.ref C_InvalidCell) = some false)
    (qm_InvalidIndex_InvalidCell : PySem.W.mroIn K C_InvalidIndex (.ref C_InvalidCell) = some false)
    (qm_InvalidKey_InvalidCell : PySem.W.mroIn K C_InvalidKey (.ref C_InvalidCell) = some false)
    (qm_InvalidLayout_InvalidCell : PySem.W.mroIn K C_InvalidLayout (.ref C_InvalidCell) = some false)
    (qm_InvalidLoad_InvalidCell : PySem.W.mroIn K C_InvalidLoad (.ref C_InvalidCell) = some false)
    (qm_InvalidNumber_InvalidCell : PySem.W.mroIn K C_InvalidNumber (.ref C_InvalidCell) = some false)
    (qm_InvalidOperation_InvalidCell : PySem.W.mroIn K C_InvalidOperation (.ref C_InvalidCell) = some false)
    (qm_InvalidSize_InvalidCell : PySem.W.mroIn K C_InvalidSize (.ref C_InvalidCell) = some false)
    (qm_InvalidText_InvalidCell : PySem.W.mroIn K C_InvalidText (.ref C_InvalidCell) = some false)
    (qm_InvalidWord_InvalidCell : PySem.W.mroIn K C_InvalidWord (.ref C_InvalidCell) = some false)
    (qm_LaceError_InvalidCell : PySem.W.mroIn K C_LaceError (.ref C_InvalidCell) = some false)
    (qm_Nothing_InvalidCell : PySem.W.mroIn K C_Nothing (.ref C_InvalidCell) = some false)
    (qm_OverBudget_InvalidCell : PySem.W.mroIn K C_OverBudget (.ref C_InvalidCell) = some false)
    (qm_TooMany_InvalidCell : PySem.W.mroIn K C_TooMany (.ref C_InvalidCell) = some false)
    (qm_UnlikeGrids_InvalidCell : PySem.W.mroIn K C_UnlikeGrids (.ref C_InvalidCell) = some false)
    (ks_InvalidCell : PySem.W.mroIn K C_InvalidCell (.ref C_InvalidCell) = some true)
    (ky_InvalidCell : PySem.W.typeIn K (.ref C_InvalidCell) = some (.type "type"))
    (qm_InvalidBits_InvalidCommand : PySem.W.mroIn K C_InvalidBits (.ref C_InvalidCommand) = some false)
    (qm_InvalidBox_InvalidCommand : PySem.W.mroIn K C_InvalidBox (.ref C_InvalidCommand) = some false)
    (qm_InvalidBoxes_InvalidCommand : PySem.W.mroIn K C_InvalidBoxes (.ref C_InvalidCommand) = some false)
    (qm_InvalidBudget_InvalidCommand : PySem.W.mroIn K C_InvalidBudget (.ref C_InvalidCommand) = some false)
    (qm_InvalidCell_InvalidCommand : PySem.W.mroIn K C_InvalidCell (.ref C_InvalidCommand) = some false)
    (qm_InvalidIndex_InvalidCommand : PySem.W.mroIn K C_InvalidIndex (.ref C_InvalidCommand) = some false)
    (qm_InvalidKey_InvalidCommand : PySem.W.mroIn K C_InvalidKey (.ref C_InvalidCommand) = some false)
    (qm_InvalidLayout_InvalidCommand : PySem.W.mroIn K C_InvalidLayout (.ref C_InvalidCommand) = some false)
    (qm_InvalidLoad_InvalidCommand : PySem.W.mroIn K C_InvalidLoad (.ref C_InvalidCommand) = some false)
    (qm_InvalidNumber_InvalidCommand : PySem.W.mroIn K C_InvalidNumber (.ref C_InvalidCommand) = some false)
    (qm_InvalidOperation_InvalidCommand : PySem.W.mroIn K C_InvalidOperation (.ref C_InvalidCommand) = some false)
    (qm_InvalidSize_InvalidCommand : PySem.W.mroIn K C_InvalidSize (.ref C_InvalidCommand) = some false)
    (qm_InvalidText_InvalidCommand : PySem.W.mroIn K C_InvalidText (.ref C_InvalidCommand) = some false)
    (qm_InvalidWord_InvalidCommand : PySem.W.mroIn K C_InvalidWord (.ref C_InvalidCommand) = some false)
    (qm_LaceError_InvalidCommand : PySem.W.mroIn K C_LaceError (.ref C_InvalidCommand) = some false)
    (qm_Nothing_InvalidCommand : PySem.W.mroIn K C_Nothing (.ref C_InvalidCommand) = some false)
    (qm_OverBudget_InvalidCommand : PySem.W.mroIn K C_OverBudget (.ref C_InvalidCommand) = some false)
    (qm_TooMany_InvalidCommand : PySem.W.mroIn K C_TooMany (.ref C_InvalidCommand) = some false)
    (qm_UnlikeGrids_InvalidCommand : PySem.W.mroIn K C_UnlikeGrids (.ref C_InvalidCommand) = some false)
    (ks_InvalidCommand : PySem.W.mroIn K C_InvalidCommand (.ref C_InvalidCommand) = some true)
    (ky_InvalidCommand : PySem.W.typeIn K (.ref C_InvalidCommand) = some (.type "type"))
    (qm_InvalidBits_InvalidIndex : PySem.W.mroIn K C_InvalidBits (.ref C_InvalidIndex) = some false)
    (qm_InvalidBox_InvalidIndex : PySem.W.mroIn K C_InvalidBox (.ref C_InvalidIndex) = some false)
    (qm_InvalidBoxes_InvalidIndex : PySem.W.mroIn K C_InvalidBoxes (.ref C_InvalidIndex) = some false)
    (qm_InvalidBudget_InvalidIndex : PySem.W.mroIn K C_InvalidBudget (.ref C_InvalidIndex) = some false)
    (qm_InvalidCell_InvalidIndex : PySem.W.mroIn K C_InvalidCell (.ref C_InvalidIndex) = some false)
    (qm_InvalidCommand_InvalidIndex : PySem.W.mroIn K C_InvalidCommand (.ref C_InvalidIndex) = some false)
    (qm_InvalidKey_InvalidIndex : PySem.W.mroIn K C_InvalidKey (.ref C_InvalidIndex) = some false)
    (qm_InvalidLayout_InvalidIndex : PySem.W.mroIn K C_InvalidLayout (.ref C_InvalidIndex) = some false)
    (qm_InvalidLoad_InvalidIndex : PySem.W.mroIn K C_InvalidLoad (.ref C_InvalidIndex) = some false)
    (qm_InvalidNumber_InvalidIndex : PySem.W.mroIn K C_InvalidNumber (.ref C_InvalidIndex) = some false)
    (qm_InvalidOperation_InvalidIndex : PySem.W.mroIn K C_InvalidOperation (.ref C_InvalidIndex) = some false)
    (qm_InvalidSize_InvalidIndex : PySem.W.mroIn K C_InvalidSize (.ref C_InvalidIndex) = some false)
    (qm_InvalidText_InvalidIndex : PySem.W.mroIn K C_InvalidText (.ref C_InvalidIndex) = some false)
    (qm_InvalidWord_InvalidIndex : PySem.W.mroIn K C_InvalidWord (.ref C_InvalidIndex) = some false)
    (qm_LaceError_InvalidIndex : PySem.W.mroIn K C_LaceError (.ref C_InvalidIndex) = some false)
    (qm_Nothing_InvalidIndex : PySem.W.mroIn K C_Nothing (.ref C_InvalidIndex) = some false)
    (qm_OverBudget_InvalidIndex : PySem.W.mroIn K C_OverBudget (.ref C_InvalidIndex) = some false)
    (qm_TooMany_InvalidIndex : PySem.W.mroIn K C_TooMany (.ref C_InvalidIndex) = some false)
    (qm_UnlikeGrids_InvalidIndex : PySem.W.mroIn K C_UnlikeGrids (.ref C_InvalidIndex) = some false)
    (ks_InvalidIndex : PySem.W.mroIn K C_InvalidIndex (.ref C_InvalidIndex) = some true)
    (ky_InvalidIndex : PySem.W.typeIn K (.ref C_InvalidIndex) = some (.type "type"))
    (qm_InvalidBits_InvalidKey : PySem.W.mroIn K C_InvalidBits (.ref C_InvalidKey) = some false)
    (qm_InvalidBox_InvalidKey : PySem.W.mroIn K C_InvalidBox (.ref C_InvalidKey) = some false)
    (qm_InvalidBoxes_InvalidKey : PySem.W.mroIn K C_InvalidBoxes (.ref C_InvalidKey) = some false)
    (qm_InvalidBudget_InvalidKey : PySem.W.mroIn K C_InvalidBudget (.ref C_InvalidKey) = some false)
    (qm_InvalidCell_InvalidKey : PySem.W.mroIn K C_InvalidCell (.ref C_InvalidKey) = some false)
    (qm_InvalidCommand_InvalidKey : PySem.W.mroIn K C_InvalidCommand (.ref C_InvalidKey) = some false)
    (qm_InvalidIndex_InvalidKey : PySem.W.mroIn K C_InvalidIndex (.ref C_InvalidKey) = some false)
    (qm_InvalidLayout_InvalidKey : PySem.W.mroIn K C_InvalidLayout (.ref C_InvalidKey) = some false)
    (qm_InvalidLoad_InvalidKey : PySem.W.mroIn K C_InvalidLoad (.ref C_InvalidKey) = some false)
    (qm_InvalidNumber_InvalidKey : PySem.W.mroIn K C_InvalidNumber (.ref C_InvalidKey) = some false)
    (qm_InvalidOperation_InvalidKey : PySem.W.mroIn K C_InvalidOperation (.ref C_InvalidKey) = some false)
    (qm_InvalidSize_InvalidKey : PySem.W.mroIn K C_InvalidSize (.ref C_InvalidKey) = some false)
    (qm_InvalidText_InvalidKey : PySem.W.mroIn K C_InvalidText (.ref C_InvalidKey) = some false)
    (qm_InvalidWord_InvalidKey : PySem.W.mroIn K C_InvalidWord (.ref C_InvalidKey) = some false)
    (qm_LaceError_InvalidKey : PySem.W.mroIn K C_LaceError (.ref C_InvalidKey) = some false)
    (qm_Nothing_InvalidKey : PySem.W.mroIn K C_Nothing (.ref C_InvalidKey) = some false)
    (qm_OverBudget_InvalidKey : PySem.W.mroIn K C_OverBudget (.ref C_InvalidKey) = some false)
    (qm_TooMany_InvalidKey : PySem.W.mroIn K C_TooMany (.ref C_InvalidKey) = some false)
    (qm_UnlikeGrids_InvalidKey : PySem.W.mroIn K C_UnlikeGrids (.ref C_InvalidKey) = some false)
    (ks_InvalidKey : PySem.W.mroIn K C_InvalidKey (.ref C_InvalidKey) = some true)
    (ky_InvalidKey : PySem.W.typeIn K (.ref C_InvalidKey) = some (.type "type"))
    (qm_InvalidBits_InvalidLayout : PySem.W.mroIn K C_InvalidBits (.ref C_InvalidLayout) = some false)
    (qm_InvalidBox_InvalidLayout : PySem.W.mroIn K C_InvalidBox (.ref C_InvalidLayout) = some false)
    (qm_InvalidBoxes_InvalidLayout : PySem.W.mroIn K C_InvalidBoxes (.ref C_InvalidLayout) = some false)
    (qm_InvalidBudget_InvalidLayout : PySem.W.mroIn K C_InvalidBudget (.ref C_InvalidLayout) = some false)
    (qm_InvalidCell_InvalidLayout : PySem.W.mroIn K C_InvalidCell (.ref C_InvalidLayout) = some false)
    (qm_InvalidCommand_InvalidLayout : PySem.W.mroIn K C_InvalidCommand (.ref C_InvalidLayout) = some false)
    (qm_InvalidIndex_InvalidLayout : PySem.W.mroIn K C_InvalidIndex (.ref C_InvalidLayout) = some false)
    (qm_InvalidKey_InvalidLayout : PySem.W.mroIn K C_InvalidKey (.ref C_InvalidLayout) = some false)
    (qm_InvalidLoad_InvalidLayout : PySem.W.mroIn K C_InvalidLoad (.ref C_InvalidLayout) = some false)
    (qm_InvalidNumber_InvalidLayout : PySem.W.mroIn K C_InvalidNumber (.ref C_InvalidLayout) = some false)
    (qm_InvalidOperation_InvalidLayout : PySem.W.mroIn K C_InvalidOperation (.ref C_InvalidLayout) = some false)
    (qm_InvalidSize_InvalidLayout : PySem.W.mroIn K C_InvalidSize (.ref C_InvalidLayout) = some false)
    (qm_InvalidText_InvalidLayout : PySem.W.mroIn K C_InvalidText (.ref C_InvalidLayout) = some false)
    (qm_InvalidWord_InvalidLayout : PySem.W.mroIn K C_InvalidWord (.ref C_InvalidLayout) = some false)
    (qm_LaceError_InvalidLayout : PySem.W.mroIn K C_LaceError (.ref C_InvalidLayout) = some false)
    (qm_Nothing_InvalidLayout : PySem.W.mroIn K C_Nothing (.ref C_InvalidLayout) = some false)
    (qm_OverBudget_InvalidLayout : PySem.W.mroIn K C_OverBudget (.ref C_InvalidLayout) = some false)
    (qm_TooMany_InvalidLayout : PySem.W.mroIn K C_TooMany (.ref C_InvalidLayout) = some false)
    (qm_UnlikeGrids_InvalidLayout : PySem.W.mroIn K C_UnlikeGrids (.ref C_InvalidLayout) = some false)
    (ks_InvalidLayout : PySem.W.mroIn K C_InvalidLayout (.ref C_InvalidLayout) = some true)
    (ky_InvalidLayout : PySem.W.typeIn K (.ref C_InvalidLayout) = some (.type "type"))
    (qm_InvalidBits_InvalidLoad : PySem.W.mroIn K C_InvalidBits (.ref C_InvalidLoad) = some false)
    (qm_InvalidBox_InvalidLoad : PySem.W.mroIn K C_InvalidBox (.ref C_InvalidLoad) = some false)
    (qm_InvalidBoxes_InvalidLoad : PySem.W.mroIn K C_InvalidBoxes (.ref C_InvalidLoad) = some false)
    (qm_InvalidBudget_InvalidLoad : PySem.W.mroIn K C_InvalidBudget (.ref C_InvalidLoad) = some false)
    (qm_InvalidCell_InvalidLoad : PySem.W.mroIn K C_InvalidCell (.ref C_InvalidLoad) = some false)
    (qm_InvalidCommand_InvalidLoad : PySem.W.mroIn K C_InvalidCommand (.ref C_InvalidLoad) = some false)
    (qm_InvalidIndex_InvalidLoad : PySem.W.mroIn K C_InvalidIndex (.ref C_InvalidLoad) = some false)
    (qm_InvalidKey_InvalidLoad : PySem.W.mroIn K C_InvalidKey (.ref C_InvalidLoad) = some false)
    (qm_InvalidLayout_InvalidLoad : PySem.W.mroIn K C_InvalidLayout (.ref C_InvalidLoad) = some false)
    (qm_InvalidNumber_InvalidLoad : PySem.W.mroIn K C_InvalidNumber (.ref C_InvalidLoad) = some false)
    (qm_InvalidOperation_InvalidLoad : PySem.W.mroIn K C_InvalidOperation (.ref C_InvalidLoad) = some false)
    (qm_InvalidSize_InvalidLoad : PySem.W.mroIn K C_InvalidSize (.ref C_InvalidLoad) = some false)
    (qm_InvalidText_InvalidLoad : PySem.W.mroIn K C_InvalidText (.ref C_InvalidLoad) = some false)
    (qm_InvalidWord_InvalidLoad : PySem.W.mroIn K C_InvalidWord (.ref C_InvalidLoad) = some false)
    (qm_LaceError_InvalidLoad : PySem.W.mroIn K C_LaceError (.ref C_InvalidLoad) = some false)
    (qm_Nothing_InvalidLoad : PySem.W.mroIn K C_Nothing (.ref C_InvalidLoad) = some false)
    (qm_OverBudget_InvalidLoad : PySem.W.mroIn K C_OverBudget (.ref C_InvalidLoad) = some false)
    (qm_TooMany_InvalidLoad : PySem.W.mroIn K C_TooMany (.ref C_InvalidLoad) = some false)
    (qm_UnlikeGrids_InvalidLoad : PySem.W.mroIn K C_UnlikeGrids (.ref C_InvalidLoad) = some false)
    (ks_InvalidLoad : PySem.W.mroIn K C_InvalidLoad (.ref C_InvalidLoad) = some true)
    (ky_InvalidLoad : PySem.W.typeIn K (.ref C_InvalidLoad) = some (.type "type"))
    (qm_InvalidBits_InvalidNumber : PySem.W.mroIn K C_InvalidBits (.ref C_InvalidNumber) = some false)
    (qm_InvalidBox_InvalidNumber : PySem.W.mroIn K C_InvalidBox (.ref C_InvalidNumber) = some false)
    (qm_InvalidBoxes_InvalidNumber : PySem.W.mroIn K C_InvalidBoxes (.ref C_InvalidNumber) = some false)
    (qm_InvalidBudget_InvalidNumber : PySem.W.mroIn K C_InvalidBudget (.ref C_InvalidNumber) = some false)
    (qm_InvalidCell_InvalidNumber : PySem.W.mroIn K C_InvalidCell (.ref C_InvalidNumber) = some false)
    (qm_InvalidCommand_InvalidNumber : PySem.W.mroIn K C_InvalidCommand (.ref C_InvalidNumber) = some false)
    (qm_InvalidIndex_InvalidNumber : PySem.W.mroIn K C_InvalidIndex (.ref C_InvalidNumber) = some false)
    (qm_InvalidKey_InvalidNumber : PySem.W.mroIn K C_InvalidKey (.ref C_InvalidNumber) = some false)
    (qm_InvalidLayout_InvalidNumber : PySem.W.mroIn K C_InvalidLayout (.ref C_InvalidNumber) = some false)
    (qm_InvalidLoad_InvalidNumber : PySem.W.mroIn K C_InvalidLoad (.ref C_InvalidNumber) = some false)
    (qm_InvalidOperation_InvalidNumber : PySem.W.mroIn K C_InvalidOperation (.ref C_InvalidNumber) = some false)
    (qm_InvalidSize_InvalidNumber : PySem.W.mroIn K C_InvalidSize (.ref C_InvalidNumber) = some false)
    (qm_InvalidText_InvalidNumber : PySem.W.mroIn K C_InvalidText (.ref C_InvalidNumber) = some false)
    (qm_InvalidWord_InvalidNumber : PySem.W.mroIn K C_InvalidWord (.ref C_InvalidNumber) = some false)
    (qm_LaceError_InvalidNumber : PySem.W.mroIn K C_LaceError (.ref C_InvalidNumber) = some false)
    (qm_Nothing_InvalidNumber : PySem.W.mroIn K C_Nothing (.ref C_InvalidNumber) = some false)
    (qm_OverBudget_InvalidNumber : PySem.W.mroIn K C_OverBudget (.ref C_InvalidNumber) = some false)
    (qm_TooMany_InvalidNumber : PySem.W.mroIn K C_TooMany (.ref C_InvalidNumber) = some false)
    (qm_UnlikeGrids_InvalidNumber : PySem.W.mroIn K C_UnlikeGrids (.ref C_InvalidNumber) = some false)
    (ks_InvalidNumber : PySem.W.mroIn K C_InvalidNumber (.ref C_InvalidNumber) = some true)
    (ky_InvalidNumber : PySem.W.typeIn K (.ref C_InvalidNumber) = some (.type "type"))
    (qm_InvalidBits_InvalidOperation : PySem.W.mroIn K C_InvalidBits (.ref C_InvalidOperation) = some false)
    (qm_InvalidBox_InvalidOperation : PySem.W.mroIn K C_InvalidBox (.ref C_InvalidOperation) = some false)
    (qm_InvalidBoxes_InvalidOperation : PySem.W.mroIn K C_InvalidBoxes (.ref C_InvalidOperation) = some false)
    (qm_InvalidBudget_InvalidOperation : PySem.W.mroIn K C_InvalidBudget (.ref C_InvalidOperation) = some false)
    (qm_InvalidCell_InvalidOperation : PySem.W.mroIn K C_InvalidCell (.ref C_InvalidOperation) = some false)
    (qm_InvalidCommand_InvalidOperation : PySem.W.mroIn K C_InvalidCommand (.ref C_InvalidOperation) = some false)
    (qm_InvalidIndex_InvalidOperation : PySem.W.mroIn K C_InvalidIndex (.ref C_InvalidOperation) = some false)
    (qm_InvalidKey_InvalidOperation : PySem.W.mroIn K C_InvalidKey (.ref C_InvalidOperation) = some false)
    (qm_InvalidLayout_InvalidOperation : PySem.W.mroIn K C_InvalidLayout (.ref C_InvalidOperation) = some false)
    (qm_InvalidLoad_InvalidOperation : PySem.W.mroIn K C_InvalidLoad (.ref C_InvalidOperation) = some false)
    (qm_InvalidNumber_InvalidOperation : PySem.W.mroIn K C_InvalidNumber (.ref C_InvalidOperation) = some false)
    (qm_InvalidSize_InvalidOperation : PySem.W.mroIn K C_InvalidSize (.ref C_InvalidOperation) = some false)
    (qm_InvalidText_InvalidOperation : PySem.W.mroIn K C_InvalidText (.ref C_InvalidOperation) = some false)
    (qm_InvalidWord_InvalidOperation : PySem.W.mroIn K C_InvalidWord (.ref C_InvalidOperation) = some false)
    (qm_LaceError_InvalidOperation : PySem.W.mroIn K C_LaceError (.ref C_InvalidOperation) = some false)
    (qm_Nothing_InvalidOperation : PySem.W.mroIn K C_Nothing (.ref C_InvalidOperation) = some false)
    (qm_OverBudget_InvalidOperation : PySem.W.mroIn K C_OverBudget (.ref C_InvalidOperation) = some false)
    (qm_TooMany_InvalidOperation : PySem.W.mroIn K C_TooMany (.ref C_InvalidOperation) = some false)
    (qm_UnlikeGrids_InvalidOperation : PySem.W.mroIn K C_UnlikeGrids (.ref C_InvalidOperation) = some false)
    (ks_InvalidOperation : PySem.W.mroIn K C_InvalidOperation (.ref C_InvalidOperation) = some true)
    (ky_InvalidOperation : PySem.W.typeIn K (.ref C_InvalidOperation) = some (.type "type"))
    (qm_InvalidBits_InvalidSize : PySem.W.mroIn K C_InvalidBits (.ref C_InvalidSize) = some false)
    (qm_InvalidBox_InvalidSize : PySem.W.mroIn K C_InvalidBox (.ref C_InvalidSize) = some false)
    (qm_InvalidBoxes_InvalidSize : PySem.W.mroIn K C_InvalidBoxes (.ref C_InvalidSize) = some false)
    (qm_InvalidBudget_InvalidSize : PySem.W.mroIn K C_InvalidBudget (.ref C_InvalidSize) = some false)
    (qm_InvalidCell_InvalidSize : PySem.W.mroIn K C_InvalidCell (.ref C_InvalidSize) = some false)
    (qm_InvalidCommand_InvalidSize : PySem.W.mroIn K C_InvalidCommand (.ref C_InvalidSize) = some false)
    (qm_InvalidIndex_InvalidSize : PySem.W.mroIn K C_InvalidIndex (.ref C_InvalidSize) = some false)
    (qm_InvalidKey_InvalidSize : PySem.W.mroIn K C_InvalidKey (.ref C_InvalidSize) = some false)
    (qm_InvalidLayout_InvalidSize : PySem.W.mroIn K C_InvalidLayout (.ref C_InvalidSize) = some false)
    (qm_InvalidLoad_InvalidSize : PySem.W.mroIn K C_InvalidLoad (.ref C_InvalidSize) = some false)
    (qm_InvalidNumber_InvalidSize : PySem.W.mroIn K C_InvalidNumber (.ref C_InvalidSize) = some false)
    (qm_InvalidOperation_InvalidSize : PySem.W.mroIn K C_InvalidOperation (.ref C_InvalidSize) = some false)
    (qm_InvalidText_InvalidSize : PySem.W.mroIn K C_InvalidText (.ref C_InvalidSize) = some false)
    (qm_InvalidWord_InvalidSize : PySem.W.mroIn K C_InvalidWord (.ref C_InvalidSize) = some false)
    (qm_LaceError_InvalidSize : PySem.W.mroIn K C_LaceError (.ref C_InvalidSize) = some false)
    (qm_Nothing_InvalidSize : PySem.W.mroIn K C_Nothing (.ref C_InvalidSize) = some false)
    (qm_OverBudget_InvalidSize : PySem.W.mroIn K C_OverBudget (.ref C_InvalidSize) = some false)
    (qm_TooMany_InvalidSize : PySem.W.mroIn K C_TooMany (.ref C_InvalidSize) = some false)
    (qm_UnlikeGrids_InvalidSize : PySem.W.mroIn K C_UnlikeGrids (.ref C_InvalidSize) = some false)
    (ks_InvalidSize : PySem.W.mroIn K C_InvalidSize (.ref C_InvalidSize) = some true)
    (ky_InvalidSize : PySem.W.typeIn K (.ref C_InvalidSize) = some (.type "type"))
    (qm_InvalidBits_InvalidText : PySem.W.mroIn K C_InvalidBits (.ref C_InvalidText) = some false)
    (qm_InvalidBox_InvalidText : PySem.W.mroIn K C_InvalidBox (.ref C_InvalidText) = some false)
    (qm_InvalidBoxes_InvalidText : PySem.W.mroIn K C_InvalidBoxes (.ref C_InvalidText) = some false)
    (qm_InvalidBudget_InvalidText : PySem.W.mroIn K C_InvalidBudget (.ref C_InvalidText) = some false)
    (qm_InvalidCell_InvalidText : PySem.W.mroIn K C_InvalidCell (.ref C_InvalidText) = some false)
    (qm_InvalidCommand_InvalidText : PySem.W.mroIn K C_InvalidCommand (.ref C_InvalidText) = some false)
    (qm_InvalidIndex_InvalidText : PySem.W.mroIn K C_InvalidIndex (.ref C_InvalidText) = some false)
    (qm_InvalidKey_InvalidText : PySem.W.mroIn K C_InvalidKey (.ref C_InvalidText) = some false)
    (qm_InvalidLayout_InvalidText : PySem.W.mroIn K C_InvalidLayout (.ref C_InvalidText) = some false)
    (qm_InvalidLoad_InvalidText : PySem.W.mroIn K C_InvalidLoad (.ref C_InvalidText) = some false)
    (qm_InvalidNumber_InvalidText : PySem.W.mroIn K C_InvalidNumber (.ref C_InvalidText) = some false)
    (qm_InvalidOperation_InvalidText : PySem.W.mroIn K C_InvalidOperation (.ref C_InvalidText) = some false)
    (qm_InvalidSize_InvalidText : PySem.W.mroIn K C_InvalidSize (.ref C_InvalidText) = some false)
    (qm_InvalidWord_InvalidText : PySem.W.mroIn K C_InvalidWord (.ref C_InvalidText) = some false)
    (qm_LaceError_InvalidText : PySem.W.mroIn K C_LaceError (.ref C_InvalidText) = some false)
    (qm_Nothing_InvalidText : PySem.W.mroIn K C_Nothing (.ref C_InvalidText) = some false)
    (qm_OverBudget_InvalidText : PySem.W.mroIn K C_OverBudget (.ref C_InvalidText) = some false)
    (qm_TooMany_InvalidText : PySem.W.mroIn K C_TooMany (.ref C_InvalidText) = some false)
    (qm_UnlikeGrids_InvalidText : PySem.W.mroIn K C_UnlikeGrids (.ref C_InvalidText) = some false)
    (ks_InvalidText : PySem.W.mroIn K C_InvalidText (.ref C_InvalidText) = some true)
    (ky_InvalidText : PySem.W.typeIn K (.ref C_InvalidText) = some (.type "type"))
    (qm_InvalidBits_InvalidWord : PySem.W.mroIn K C_InvalidBits (.ref C_InvalidWord) = some false)
    (qm_InvalidBox_InvalidWord : PySem.W.mroIn K C_InvalidBox (.ref C_InvalidWord) = some false)
    (qm_InvalidBoxes_InvalidWord : PySem.W.mroIn K C_InvalidBoxes (.ref C_InvalidWord) = some false)
    (qm_InvalidBudget_InvalidWord : PySem.W.mroIn K C_InvalidBudget (.ref C_InvalidWord) = some false)
    (qm_InvalidCell_InvalidWord : PySem.W.mroIn K C_InvalidCell (.ref C_InvalidWord) = some false)
    (qm_InvalidCommand_InvalidWord : PySem.W.mroIn K C_InvalidCommand (.ref C_InvalidWord) = some false)
    (qm_InvalidIndex_InvalidWord : PySem.W.mroIn K C_InvalidIndex (.ref C_InvalidWord) = some false)
    (qm_InvalidKey_InvalidWord : PySem.W.mroIn K C_InvalidKey (.ref C_InvalidWord) = some false)
    (qm_InvalidLayout_InvalidWord : PySem.W.mroIn K C_InvalidLayout (.ref C_InvalidWord) = some false)
    (qm_InvalidLoad_InvalidWord : PySem.W.mroIn K C_InvalidLoad (.ref C_InvalidWord) = some false)
    (qm_InvalidNumber_InvalidWord : PySem.W.mroIn K C_InvalidNumber (.ref C_InvalidWord) = some false)
    (qm_InvalidOperation_InvalidWord : PySem.W.mroIn K C_InvalidOperation (.ref C_InvalidWord) = some false)
    (qm_InvalidSize_InvalidWord : PySem.W.mroIn K C_InvalidSize (.ref C_InvalidWord) = some false)
    (qm_InvalidText_InvalidWord : PySem.W.mroIn K C_InvalidText (.ref C_InvalidWord) = some false)
    (qm_LaceError_InvalidWord : PySem.W.mroIn K C_LaceError (.ref C_InvalidWord) = some false)
    (qm_Nothing_InvalidWord : PySem.W.mroIn K C_Nothing (.ref C_InvalidWord) = some false)
    (qm_OverBudget_InvalidWord : PySem.W.mroIn K C_OverBudget (.ref C_InvalidWord) = some false)
    (qm_TooMany_InvalidWord : PySem.W.mroIn K C_TooMany (.ref C_InvalidWord) = some false)
    (qm_UnlikeGrids_InvalidWord : PySem.W.mroIn K C_UnlikeGrids (.ref C_InvalidWord) = some false)
    (ks_InvalidWord : PySem.W.mroIn K C_InvalidWord (.ref C_InvalidWord) = some true)
    (ky_InvalidWord : PySem.W.typeIn K (.ref C_InvalidWord) = some (.type "type"))
    (qm_InvalidBits_LaceError : PySem.W.mroIn K C_InvalidBits (.ref C_LaceError) = some true)
    (qm_InvalidBox_LaceError : PySem.W.mroIn K C_InvalidBox (.ref C_LaceError) = some true)
    (qm_InvalidBoxes_LaceError : PySem.W.mroIn K C_InvalidBoxes (.ref C_LaceError) = some true)
    (qm_InvalidBudget_LaceError : PySem.W.mroIn K C_InvalidBudget (.ref C_LaceError) = some true)
    (qm_InvalidCell_LaceError : PySem.W.mroIn K C_InvalidCell (.ref C_LaceError) = some true)
    (qm_InvalidCommand_LaceError : PySem.W.mroIn K C_InvalidCommand (.ref C_LaceError) = some true)
    (qm_InvalidIndex_LaceError : PySem.W.mroIn K C_InvalidIndex (.ref C_LaceError) = some true)
    (qm_InvalidKey_LaceError : PySem.W.mroIn K C_InvalidKey (.ref C_LaceError) = some true)
    (qm_InvalidLayout_LaceError : PySem.W.mroIn K C_InvalidLayout (.ref C_LaceError) = some true)
    (qm_InvalidLoad_LaceError : PySem.W.mroIn K C_InvalidLoad (.ref C_LaceError) = some true)
    (qm_InvalidNumber_LaceError : PySem.W.mroIn K C_InvalidNumber (.ref C_LaceError) = some true)
    (qm_InvalidOperation_LaceError : PySem.W.mroIn K C_InvalidOperation (.ref C_LaceError) = some true)
    (qm_InvalidSize_LaceError : PySem.W.mroIn K C_InvalidSize (.ref C_LaceError) = some true)
    (qm_InvalidText_LaceError : PySem.W.mroIn K C_InvalidText (.ref C_LaceError) = some true)
    (qm_InvalidWord_LaceError : PySem.W.mroIn K C_InvalidWord (.ref C_LaceError) = some true)
    (qm_Nothing_LaceError : PySem.W.mroIn K C_Nothing (.ref C_LaceError) = some true)
    (qm_OverBudget_LaceError : PySem.W.mroIn K C_OverBudget (.ref C_LaceError) = some true)
    (qm_TooMany_LaceError : PySem.W.mroIn K C_TooMany (.ref C_LaceError) = some true)
    (qm_UnlikeGrids_LaceError : PySem.W.mroIn K C_UnlikeGrids (.ref C_LaceError) = some true)
    (ks_LaceError : PySem.W.mroIn K C_LaceError (.ref C_LaceError) = some true)
    (ky_LaceError : PySem.W.typeIn K (.ref C_LaceError) = some (.type "type"))
    (qm_InvalidBits_Nothing : PySem.W.mroIn K C_InvalidBits (.ref C_Nothing) = some false)
    (qm_InvalidBox_Nothing : PySem.W.mroIn K C_InvalidBox (.ref C_Nothing) = some false)
    (qm_InvalidBoxes_Nothing : PySem.W.mroIn K C_InvalidBoxes (.ref C_Nothing) = some false)
    (qm_InvalidBudget_Nothing : PySem.W.mroIn K C_InvalidBudget (.ref C_Nothing) = some false)
    (qm_InvalidCell_Nothing : PySem.W.mroIn K C_InvalidCell (.ref C_Nothing) = some false)
    (qm_InvalidCommand_Nothing : PySem.W.mroIn K C_InvalidCommand (.ref C_Nothing) = some false)
    (qm_InvalidIndex_Nothing : PySem.W.mroIn K C_InvalidIndex (.ref C_Nothing) = some false)
    (qm_InvalidKey_Nothing : PySem.W.mroIn K C_InvalidKey (.ref C_Nothing) = some false)
    (qm_InvalidLayout_Nothing : PySem.W.mroIn K C_InvalidLayout (.ref C_Nothing) = some false)
    (qm_InvalidLoad_Nothing : PySem.W.mroIn K C_InvalidLoad (.ref C_Nothing) = some false)
    (qm_InvalidNumber_Nothing : PySem.W.mroIn K C_InvalidNumber (.ref C_Nothing) = some false)
    (qm_InvalidOperation_Nothing : PySem.W.mroIn K C_InvalidOperation (.ref C_Nothing) = some false)
    (qm_InvalidSize_Nothing : PySem.W.mroIn K C_InvalidSize (.ref C_Nothing) = some false)
    (qm_InvalidText_Nothing : PySem.W.mroIn K C_InvalidText (.ref C_Nothing) = some false)
    (qm_InvalidWord_Nothing : PySem.W.mroIn K C_InvalidWord (.ref C_Nothing) = some false)
    (qm_LaceError_Nothing : PySem.W.mroIn K C_LaceError (.ref C_Nothing) = some false)
    (qm_OverBudget_Nothing : PySem.W.mroIn K C_OverBudget (.ref C_Nothing) = some false)
    (qm_TooMany_Nothing : PySem.W.mroIn K C_TooMany (.ref C_Nothing) = some false)
    (qm_UnlikeGrids_Nothing : PySem.W.mroIn K C_UnlikeGrids (.ref C_Nothing) = some false)
    (ks_Nothing : PySem.W.mroIn K C_Nothing (.ref C_Nothing) = some true)
    (ky_Nothing : PySem.W.typeIn K (.ref C_Nothing) = some (.type "type"))
    (qm_InvalidBits_OverBudget : PySem.W.mroIn K C_InvalidBits (.ref C_OverBudget) = some false)
    (qm_InvalidBox_OverBudget : PySem.W.mroIn K C_InvalidBox (.ref C_OverBudget) = some false)
    (qm_InvalidBoxes_OverBudget : PySem.W.mroIn K C_InvalidBoxes (.ref C_OverBudget) = some false)
    (qm_InvalidBudget_OverBudget : PySem.W.mroIn K C_InvalidBudget (.ref C_OverBudget) = some false)
    (qm_InvalidCell_OverBudget : PySem.W.mroIn K C_InvalidCell (.ref C_OverBudget) = some false)
    (qm_InvalidCommand_OverBudget : PySem.W.mroIn K C_InvalidCommand (.ref C_OverBudget) = some false)
    (qm_InvalidIndex_OverBudget : PySem.W.mroIn K C_InvalidIndex (.ref C_OverBudget) = some false)
    (qm_InvalidKey_OverBudget : PySem.W.mroIn K C_InvalidKey (.ref C_OverBudget) = some false)
    (qm_InvalidLayout_OverBudget : PySem.W.mroIn K C_InvalidLayout (.ref C_OverBudget) = some false)
    (qm_InvalidLoad_OverBudget : PySem.W.mroIn K C_InvalidLoad (.ref C_OverBudget) = some false)
    (qm_InvalidNumber_OverBudget : PySem.W.mroIn K C_InvalidNumber (.ref C_OverBudget) = some false)
    (qm_InvalidOperation_OverBudget : PySem.W.mroIn K C_InvalidOperation (.ref C_OverBudget) = some false)
    (qm_InvalidSize_OverBudget : PySem.W.mroIn K C_InvalidSize (.ref C_OverBudget) = some false)
    (qm_InvalidText_OverBudget : PySem.W.mroIn K C_InvalidText (.ref C_OverBudget) = some false)
    (qm_InvalidWord_OverBudget : PySem.W.mroIn K C_InvalidWord (.ref C_OverBudget) = some false)
    (qm_LaceError_OverBudget : PySem.W.mroIn K C_LaceError (.ref C_OverBudget) = some false)
    (qm_Nothing_OverBudget : PySem.W.mroIn K C_Nothing (.ref C_OverBudget) = some false)
    (qm_TooMany_OverBudget : PySem.W.mroIn K C_TooMany (.ref C_OverBudget) = some false)
    (qm_UnlikeGrids_OverBudget : PySem.W.mroIn K C_UnlikeGrids (.ref C_OverBudget) = some false)
    (ks_OverBudget : PySem.W.mroIn K C_OverBudget (.ref C_OverBudget) = some true)
    (ky_OverBudget : PySem.W.typeIn K (.ref C_OverBudget) = some (.type "type"))
    (qm_InvalidBits_TooMany : PySem.W.mroIn K C_InvalidBits (.ref C_TooMany) = some false)
    (qm_InvalidBox_TooMany : PySem.W.mroIn K C_InvalidBox (.ref C_TooMany) = some false)
    (qm_InvalidBoxes_TooMany : PySem.W.mroIn K C_InvalidBoxes (.ref C_TooMany) = some false)
    (qm_InvalidBudget_TooMany : PySem.W.mroIn K C_InvalidBudget (.ref C_TooMany) = some false)
    (qm_InvalidCell_TooMany : PySem.W.mroIn K C_InvalidCell (.ref C_TooMany) = some false)
    (qm_InvalidCommand_TooMany : PySem.W.mroIn K C_InvalidCommand (.ref C_TooMany) = some false)
    (qm_InvalidIndex_TooMany : PySem.W.mroIn K C_InvalidIndex (.ref C_TooMany) = some false)
    (qm_InvalidKey_TooMany : PySem.W.mroIn K C_InvalidKey (.ref C_TooMany) = some false)
    (qm_InvalidLayout_TooMany : PySem.W.mroIn K C_InvalidLayout (.ref C_TooMany) = some false)
    (qm_InvalidLoad_TooMany : PySem.W.mroIn K C_InvalidLoad (.ref C_TooMany) = some false)
    (qm_InvalidNumber_TooMany : PySem.W.mroIn K C_InvalidNumber (.ref C_TooMany) = some false)
    (qm_InvalidOperation_TooMany : PySem.W.mroIn K C_InvalidOperation (.ref C_TooMany) = some false)
    (qm_InvalidSize_TooMany : PySem.W.mroIn K C_InvalidSize (.ref C_TooMany) = some false)
    (qm_InvalidText_TooMany : PySem.W.mroIn K C_InvalidText (.ref C_TooMany) = some false)
    (qm_InvalidWord_TooMany : PySem.W.mroIn K C_InvalidWord (.ref C_TooMany) = some false)
    (qm_LaceError_TooMany : PySem.W.mroIn K C_LaceError (.ref C_TooMany) = some false)
    (qm_Nothing_TooMany : PySem.W.mroIn K C_Nothing (.ref C_TooMany) = some false)
    (qm_OverBudget_TooMany : PySem.W.mroIn K C_OverBudget (.ref C_TooMany) = some false)
    (qm_UnlikeGrids_TooMany : PySem.W.mroIn K C_UnlikeGrids (.ref C_TooMany) = some false)
    (ks_TooMany : PySem.W.mroIn K C_TooMany (.ref C_TooMany) = some true)
    (ky_TooMany : PySem.W.typeIn K (.ref C_TooMany) = some (.type "type"))
    (qm_InvalidBits_UnlikeGrids : PySem.W.mroIn K C_InvalidBits (.ref C_UnlikeGrids) = some false)
    (qm_InvalidBox_UnlikeGrids : PySem.W.mroIn K C_InvalidBox (.ref C_UnlikeGrids) = some false)
    (qm_InvalidBoxes_UnlikeGrids : PySem.W.mroIn K C_InvalidBoxes (.ref C_UnlikeGrids) = some false)
    (qm_InvalidBudget_UnlikeGrids : PySem.W.mroIn K C_InvalidBudget (.ref C_UnlikeGrids) = some false)
    (qm_InvalidCell_UnlikeGrids : PySem.W.mroIn K C_InvalidCell (.ref C_UnlikeGrids) = some false)
    (qm_InvalidCommand_UnlikeGrids : PySem.W.mroIn K C_InvalidCommand (.ref C_UnlikeGrids) = some false)
    (qm_InvalidIndex_UnlikeGrids : PySem.W.mroIn K C_InvalidIndex (.ref C_UnlikeGrids) = some false)
    (qm_InvalidKey_UnlikeGrids : PySem.W.mroIn K C_InvalidKey (.ref C_UnlikeGrids) = some false)
    (qm_InvalidLayout_UnlikeGrids : PySem.W.mroIn K C_InvalidLayout (.ref C_UnlikeGrids) = some false)
    (qm_InvalidLoad_UnlikeGrids : PySem.W.mroIn K C_InvalidLoad (.ref C_UnlikeGrids) = some false)
    (qm_InvalidNumber_UnlikeGrids : PySem.W.mroIn K C_InvalidNumber (.ref C_UnlikeGrids) = some false)
    (qm_InvalidOperation_UnlikeGrids : PySem.W.mroIn K C_InvalidOperation (.ref C_UnlikeGrids) = some false)
    (qm_InvalidSize_UnlikeGrids : PySem.W.mroIn K C_InvalidSize (.ref C_UnlikeGrids) = some false)
    (qm_InvalidText_UnlikeGrids : PySem.W.mroIn K C_InvalidText (.ref C_UnlikeGrids) = some false)
    (qm_InvalidWord_UnlikeGrids : PySem.W.mroIn K C_InvalidWord (.ref C_UnlikeGrids) = some false)
    (qm_LaceError_UnlikeGrids : PySem.W.mroIn K C_LaceError (.ref C_UnlikeGrids) = some false)
    (qm_Nothing_UnlikeGrids : PySem.W.mroIn K C_Nothing (.ref C_UnlikeGrids) = some false)
    (qm_OverBudget_UnlikeGrids : PySem.W.mroIn K C_OverBudget (.ref C_UnlikeGrids) = some false)
    (qm_TooMany_UnlikeGrids : PySem.W.mroIn K C_TooMany (.ref C_UnlikeGrids) = some false)
    (ks_UnlikeGrids : PySem.W.mroIn K C_UnlikeGrids (.ref C_UnlikeGrids) = some true)
    (ky_UnlikeGrids : PySem.W.typeIn K (.ref C_UnlikeGrids) = some (.type "type"))
    (qm_InvalidBits_ValueError : PySem.W.mroIn K C_InvalidBits (.type "ValueError") = some true)
    (qm_InvalidBox_ValueError : PySem.W.mroIn K C_InvalidBox (.type "ValueError") = some true)
    (qm_InvalidBoxes_ValueError : PySem.W.mroIn K C_InvalidBoxes (.type "ValueError") = some true)
    (qm_InvalidBudget_ValueError : PySem.W.mroIn K C_InvalidBudget (.type "ValueError") = some true)
    (qm_InvalidCell_ValueError : PySem.W.mroIn K C_InvalidCell (.type "ValueError") = some true)
    (qm_InvalidCommand_ValueError : PySem.W.mroIn K C_InvalidCommand (.type "ValueError") = some true)
    (qm_InvalidIndex_ValueError : PySem.W.mroIn K C_InvalidIndex (.type "ValueError") = some true)
    (qm_InvalidKey_ValueError : PySem.W.mroIn K C_InvalidKey (.type "ValueError") = some true)
    (qm_InvalidLayout_ValueError : PySem.W.mroIn K C_InvalidLayout (.type "ValueError") = some true)
    (qm_InvalidLoad_ValueError : PySem.W.mroIn K C_InvalidLoad (.type "ValueError") = some true)
    (qm_InvalidNumber_ValueError : PySem.W.mroIn K C_InvalidNumber (.type "ValueError") = some true)
    (qm_InvalidOperation_ValueError : PySem.W.mroIn K C_InvalidOperation (.type "ValueError") = some true)
    (qm_InvalidSize_ValueError : PySem.W.mroIn K C_InvalidSize (.type "ValueError") = some true)
    (qm_InvalidText_ValueError : PySem.W.mroIn K C_InvalidText (.type "ValueError") = some true)
    (qm_InvalidWord_ValueError : PySem.W.mroIn K C_InvalidWord (.type "ValueError") = some true)
    (qm_LaceError_ValueError : PySem.W.mroIn K C_LaceError (.type "ValueError") = some true)
    (qm_Nothing_ValueError : PySem.W.mroIn K C_Nothing (.type "ValueError") = some true)
    (qm_OverBudget_ValueError : PySem.W.mroIn K C_OverBudget (.type "ValueError") = some true)
    (qm_TooMany_ValueError : PySem.W.mroIn K C_TooMany (.type "ValueError") = some true)
    (qm_UnlikeGrids_ValueError : PySem.W.mroIn K C_UnlikeGrids (.type "ValueError") = some true)
    (z_ValueError : PySem.W.nsIn K mainGlobals "ValueError" = some none)
    (z_enumerate : PySem.W.nsIn K mainGlobals "enumerate" = some none)
    (z_int : PySem.W.nsIn K mainGlobals "int" = some none)
    (z_isinstance : PySem.W.nsIn K mainGlobals "isinstance" = some none)
    (z_len : PySem.W.nsIn K mainGlobals "len" = some none)
    (z_max : PySem.W.nsIn K mainGlobals "max" = some none)
    (z_range : PySem.W.nsIn K mainGlobals "range" = some none)
    (oiC_InvalidBoxes : PySem.W.findIn K (.ref C_InvalidBoxes) "__init__" = some (some (.ref fo_InvalidBoxes)))
    (otI_InvalidBoxes : PySem.W.typeIn K (.ref fo_InvalidBoxes) = some (.type "function"))
    (ol_InvalidBoxes : K.lookup fo_InvalidBoxes = some ⟨oc_InvalidBoxes, od_InvalidBoxes, .func (PySem.W.ksFn "__init__" "InvalidBoxes.__init__" (defArgs so_InvalidBoxes) (defBody so_InvalidBoxes) (defScope so_InvalidBoxes) .none kV_InvalidBoxes dc_InvalidBoxes pm_InvalidBoxes an_InvalidBoxes (.ref cda_InvalidBoxes) ct_InvalidBoxes cc_InvalidBoxes), sl_InvalidBoxes⟩)
    (oh_InvalidBoxes : PySem.W.codeIn K (.ref cda_InvalidBoxes) "InvalidBoxes.__init__" = true)
    (oC_InvalidBoxes : K.lookup C_InvalidBoxes = some (excClassObj nm_InvalidBoxes q_InvalidBoxes C_InvalidBoxes N_InvalidBoxes bs_InvalidBoxes bm_InvalidBoxes true sn_InvalidBoxes sub_InvalidBoxes ab_InvalidBoxes col_InvalidBoxes dd_InvalidBoxes k0_InvalidBoxes k1_InvalidBoxes k2_InvalidBoxes k3_InvalidBoxes k5_InvalidBoxes "ValueError.__new__"))
    (orf_InvalidBoxes : PySem.HandSPX.refsVE bm_InvalidBoxes = true)
    (osa_InvalidBoxes : PySem.W.findIn K (.ref C_InvalidBoxes) "__setattr__" = some (some (.builtin "object.__setattr__")))
    (ocd_InvalidBoxes : K.lookup cda_InvalidBoxes = some ⟨ccl_InvalidBoxes, cdd_InvalidBoxes, .fields vs_InvalidBoxes, ccs_InvalidBoxes⟩)
    (orv_InvalidBoxes : vs_InvalidBoxes[2]? = some (.str file_InvalidBoxes tf_InvalidBoxes))
    (orl_InvalidBoxes : ((l.prog.main.file : Str) == file_InvalidBoxes) = true)
    (occ_InvalidBoxes : K.lookup cc_InvalidBoxes = some ⟨cl_InvalidBoxes, cld_InvalidBoxes, .cell (some (.ref C_InvalidBoxes)), csl_InvalidBoxes⟩)
    (oks_InvalidBoxes : PySem.W.ks_superIn K C_InvalidBoxes C_InvalidBoxes "__init__" = some (some (.builtin "ValueError.__init__")))
    (osu_InvalidBoxes : PySem.W.mroIn K C_InvalidBoxes (.ref C_InvalidBoxes) = some true)
    (ove_InvalidBoxes : PySem.W.subIn K (.ref C_InvalidBoxes) (.type "ValueError") = some true)
    (oan_InvalidBoxes : PySem.W.nsIn K cStatics "thirdparty.any" = some none)
    (orn_InvalidBoxes : (l.prog.main.scope.names.lookup ("super" : Str)).isSome = false)
    (ono_InvalidBoxes : PySem.W.findIn K (.ref C_InvalidBoxes) "item" = some none)
    (oxa_InvalidBoxes : PySem.W.findIn K (.ref C_InvalidBoxes) "__getattribute__" = some (some (.builtin "BaseException.__getattribute__")))
    (oxb_InvalidBoxes : PySem.W.findIn K (.ref C_InvalidBoxes) "__getattr__" = some none)
    (oxd_InvalidBoxes : PySem.W.hasDictIn K C_InvalidBoxes = true)
    (oiC_InvalidLoad : PySem.W.findIn K (.ref C_InvalidLoad) "__init__" = some (some (.ref fo_InvalidLoad)))
    (otI_InvalidLoad : PySem.W.typeIn K (.ref fo_InvalidLoad) = some (.type "function"))
    (ol_InvalidLoad : K.lookup fo_InvalidLoad = some ⟨oc_InvalidLoad, od_InvalidLoad, .func (PySem.W.ksFn "__init__" "InvalidLoad.__init__" (defArgs so_InvalidLoad) (defBody so_InvalidLoad) (defScope so_InvalidLoad) .none kV_InvalidLoad dc_InvalidLoad pm_InvalidLoad an_InvalidLoad (.ref cda_InvalidLoad) ct_InvalidLoad cc_InvalidLoad), sl_InvalidLoad⟩)
    (oh_InvalidLoad : PySem.W.codeIn K (.ref cda_InvalidLoad) "InvalidLoad.__init__" = true)
    (oC_InvalidLoad : K.lookup C_InvalidLoad = some (excClassObj nm_InvalidLoad q_InvalidLoad C_InvalidLoad N_InvalidLoad bs_InvalidLoad bm_InvalidLoad true sn_InvalidLoad sub_InvalidLoad ab_InvalidLoad col_InvalidLoad dd_InvalidLoad k0_InvalidLoad k1_InvalidLoad k2_InvalidLoad k3_InvalidLoad k5_InvalidLoad "ValueError.__new__"))
    (orf_InvalidLoad : PySem.HandSPX.refsVE bm_InvalidLoad = true)
    (osa_InvalidLoad : PySem.W.findIn K (.ref C_InvalidLoad) "__setattr__" = some (some (.builtin "object.__setattr__")))
    (ocd_InvalidLoad : K.lookup cda_InvalidLoad = some ⟨ccl_InvalidLoad, cdd_InvalidLoad, .fields vs_InvalidLoad, ccs_InvalidLoad⟩)
    (orv_InvalidLoad : vs_InvalidLoad[2]? = some (.str file_InvalidLoad tf_InvalidLoad))
    (orl_InvalidLoad : ((l.prog.main.file : Str) == file_InvalidLoad) = true)
    (occ_InvalidLoad : K.lookup cc_InvalidLoad = some ⟨cl_InvalidLoad, cld_InvalidLoad, .cell (some (.ref C_InvalidLoad)), csl_InvalidLoad⟩)
    (oks_InvalidLoad : PySem.W.ks_superIn K C_InvalidLoad C_InvalidLoad "__init__" = some (some (.builtin "ValueError.__init__")))
    (osu_InvalidLoad : PySem.W.mroIn K C_InvalidLoad (.ref C_InvalidLoad) = some true)
    (ove_InvalidLoad : PySem.W.subIn K (.ref C_InvalidLoad) (.type "ValueError") = some true)
    (oan_InvalidLoad : PySem.W.nsIn K cStatics "thirdparty.any" = some none)
    (orn_InvalidLoad : (l.prog.main.scope.names.lookup ("super" : Str)).isSome = false)
    (ono_InvalidLoad : PySem.W.findIn K (.ref C_InvalidLoad) "item" = some none)
    (oxa_InvalidLoad : PySem.W.findIn K (.ref C_InvalidLoad) "__getattribute__" = some (some (.builtin "BaseException.__getattribute__")))
    (oxb_InvalidLoad : PySem.W.findIn K (.ref C_InvalidLoad) "__getattr__" = some none)
    (oxd_InvalidLoad : PySem.W.hasDictIn K C_InvalidLoad = true)
    (oiC_InvalidText : PySem.W.findIn K (.ref C_InvalidText) "__init__" = some (some (.ref fo_InvalidText)))
    (otI_InvalidText : PySem.W.typeIn K (.ref fo_InvalidText) = some (.type "function"))
    (ol_InvalidText : K.lookup fo_InvalidText = some ⟨oc_InvalidText, od_InvalidText, .func (PySem.W.ksFn "__init__" "InvalidText.__init__" (defArgs so_InvalidText) (defBody so_InvalidText) (defScope so_InvalidText) .none kV_InvalidText dc_InvalidText pm_InvalidText an_InvalidText (.ref cda_InvalidText) ct_InvalidText cc_InvalidText), sl_InvalidText⟩)
    (oh_InvalidText : PySem.W.codeIn K (.ref cda_InvalidText) "InvalidText.__init__" = true)
    (oC_InvalidText : K.lookup C_InvalidText = some (excClassObj nm_InvalidText q_InvalidText C_InvalidText N_InvalidText bs_InvalidText bm_InvalidText true sn_InvalidText sub_InvalidText ab_InvalidText col_InvalidText dd_InvalidText k0_InvalidText k1_InvalidText k2_InvalidText k3_InvalidText k5_InvalidText "ValueError.__new__"))
    (orf_InvalidText : PySem.HandSPX.refsVE bm_InvalidText = true)
    (osa_InvalidText : PySem.W.findIn K (.ref C_InvalidText) "__setattr__" = some (some (.builtin "object.__setattr__")))
    (ocd_InvalidText : K.lookup cda_InvalidText = some ⟨ccl_InvalidText, cdd_InvalidText, .fields vs_InvalidText, ccs_InvalidText⟩)
    (orv_InvalidText : vs_InvalidText[2]? = some (.str file_InvalidText tf_InvalidText))
    (orl_InvalidText : ((l.prog.main.file : Str) == file_InvalidText) = true)
    (occ_InvalidText : K.lookup cc_InvalidText = some ⟨cl_InvalidText, cld_InvalidText, .cell (some (.ref C_InvalidText)), csl_InvalidText⟩)
    (oks_InvalidText : PySem.W.ks_superIn K C_InvalidText C_InvalidText "__init__" = some (some (.builtin "ValueError.__init__")))
    (osu_InvalidText : PySem.W.mroIn K C_InvalidText (.ref C_InvalidText) = some true)
    (ove_InvalidText : PySem.W.subIn K (.ref C_InvalidText) (.type "ValueError") = some true)
    (oan_InvalidText : PySem.W.nsIn K cStatics "thirdparty.any" = some none)
    (orn_InvalidText : (l.prog.main.scope.names.lookup ("super" : Str)).isSome = false)
    (ono_InvalidText : PySem.W.findIn K (.ref C_InvalidText) "part" = some none)
    (oxa_InvalidText : PySem.W.findIn K (.ref C_InvalidText) "__getattribute__" = some (some (.builtin "BaseException.__getattribute__")))
    (oxb_InvalidText : PySem.W.findIn K (.ref C_InvalidText) "__getattr__" = some none)
    (oxd_InvalidText : PySem.W.hasDictIn K C_InvalidText = true)
    (oiC_OverBudget : PySem.W.findIn K (.ref C_OverBudget) "__init__" = some (some (.ref fo_OverBudget)))
    (otI_OverBudget : PySem.W.typeIn K (.ref fo_OverBudget) = some (.type "function"))
    (ol_OverBudget : K.lookup fo_OverBudget = some ⟨oc_OverBudget, od_OverBudget, .func (PySem.W.ksFn "__init__" "OverBudget.__init__" (defArgs so_OverBudget) (defBody so_OverBudget) (defScope so_OverBudget) .none kV_OverBudget dc_OverBudget pm_OverBudget an_OverBudget (.ref cda_OverBudget) ct_OverBudget cc_OverBudget), sl_OverBudget⟩)
    (oh_OverBudget : PySem.W.codeIn K (.ref cda_OverBudget) "OverBudget.__init__" = true)
    (oC_OverBudget : K.lookup C_OverBudget = some (excClassObj nm_OverBudget q_OverBudget C_OverBudget N_OverBudget bs_OverBudget bm_OverBudget true sn_OverBudget sub_OverBudget ab_OverBudget col_OverBudget dd_OverBudget k0_OverBudget k1_OverBudget k2_OverBudget k3_OverBudget k5_OverBudget "ValueError.__new__"))
    (orf_OverBudget : PySem.HandSPX.refsVE bm_OverBudget = true)
    (osa_OverBudget : PySem.W.findIn K (.ref C_OverBudget) "__setattr__" = some (some (.builtin "object.__setattr__")))
    (ocd_OverBudget : K.lookup cda_OverBudget = some ⟨ccl_OverBudget, cdd_OverBudget, .fields vs_OverBudget, ccs_OverBudget⟩)
    (orv_OverBudget : vs_OverBudget[2]? = some (.str file_OverBudget tf_OverBudget))
    (orl_OverBudget : ((l.prog.main.file : Str) == file_OverBudget) = true)
    (occ_OverBudget : K.lookup cc_OverBudget = some ⟨cl_OverBudget, cld_OverBudget, .cell (some (.ref C_OverBudget)), csl_OverBudget⟩)
    (oks_OverBudget : PySem.W.ks_superIn K C_OverBudget C_OverBudget "__init__" = some (some (.builtin "ValueError.__init__")))
    (osu_OverBudget : PySem.W.mroIn K C_OverBudget (.ref C_OverBudget) = some true)
    (ove_OverBudget : PySem.W.subIn K (.ref C_OverBudget) (.type "ValueError") = some true)
    (oan_OverBudget : PySem.W.nsIn K cStatics "thirdparty.any" = some none)
    (orn_OverBudget : (l.prog.main.scope.names.lookup ("super" : Str)).isSome = false)
    (ono_OverBudget : PySem.W.findIn K (.ref C_OverBudget) "total" = some none)
    (oxa_OverBudget : PySem.W.findIn K (.ref C_OverBudget) "__getattribute__" = some (some (.builtin "BaseException.__getattribute__")))
    (oxb_OverBudget : PySem.W.findIn K (.ref C_OverBudget) "__getattr__" = some none)
    (oxd_OverBudget : PySem.W.hasDictIn K C_OverBudget = true)
    (oiC_TooMany : PySem.W.findIn K (.ref C_TooMany) "__init__" = some (some (.ref fo_TooMany)))
    (otI_TooMany : PySem.W.typeIn K (.ref fo_TooMany) = some (.type "function"))
    (ol_TooMany : K.lookup fo_TooMany = some ⟨oc_TooMany, od_TooMany, .func (PySem.W.ksFn "__init__" "TooMany.__init__" (defArgs so_TooMany) (defBody so_TooMany) (defScope so_TooMany) .none kV_TooMany dc_TooMany pm_TooMany an_TooMany (.ref cda_TooMany) ct_TooMany cc_TooMany), sl_TooMany⟩)
    (oh_TooMany : PySem.W.codeIn K (.ref cda_TooMany) "TooMany.__init__" = true)
    (oC_TooMany : K.lookup C_TooMany = some (excClassObj nm_TooMany q_TooMany C_TooMany N_TooMany bs_TooMany bm_TooMany true sn_TooMany sub_TooMany ab_TooMany col_TooMany dd_TooMany k0_TooMany k1_TooMany k2_TooMany k3_TooMany k5_TooMany "ValueError.__new__"))
    (orf_TooMany : PySem.HandSPX.refsVE bm_TooMany = true)
    (osa_TooMany : PySem.W.findIn K (.ref C_TooMany) "__setattr__" = some (some (.builtin "object.__setattr__")))
    (ocd_TooMany : K.lookup cda_TooMany = some ⟨ccl_TooMany, cdd_TooMany, .fields vs_TooMany, ccs_TooMany⟩)
    (orv_TooMany : vs_TooMany[2]? = some (.str file_TooMany tf_TooMany))
    (orl_TooMany : ((l.prog.main.file : Str) == file_TooMany) = true)
    (occ_TooMany : K.lookup cc_TooMany = some ⟨cl_TooMany, cld_TooMany, .cell (some (.ref C_TooMany)), csl_TooMany⟩)
    (oks_TooMany : PySem.W.ks_superIn K C_TooMany C_TooMany "__init__" = some (some (.builtin "ValueError.__init__")))
    (osu_TooMany : PySem.W.mroIn K C_TooMany (.ref C_TooMany) = some true)
    (ove_TooMany : PySem.W.subIn K (.ref C_TooMany) (.type "ValueError") = some true)
    (oan_TooMany : PySem.W.nsIn K cStatics "thirdparty.any" = some none)
    (orn_TooMany : (l.prog.main.scope.names.lookup ("super" : Str)).isSome = false)
    (ono_TooMany : PySem.W.findIn K (.ref C_TooMany) "limit" = some none)
    (oxa_TooMany : PySem.W.findIn K (.ref C_TooMany) "__getattribute__" = some (some (.builtin "BaseException.__getattribute__")))
    (oxb_TooMany : PySem.W.findIn K (.ref C_TooMany) "__getattr__" = some none)
    (oxd_TooMany : PySem.W.hasDictIn K C_TooMany = true)
    (z_super : PySem.W.nsIn K mainGlobals "super" = some none) :
    ∃ (Z : Unit) (fd : FuncData), (∀ (s : Shared) (v : Value), BindsTo s fd ⟨[v], []⟩ [("script", v)]) ∧ ∀ base : Heap, K.In base → base.Ns mainGlobals mg → Lk.FnG l.prog w K mg base 4 fa fd ["script"] (splaw_any K) := by
  have e := hfa.symm.trans (PySem.W.mg_of X G a_law)
  cases e
  have F_law_bag := L2.fun_mk (st := slaw_bag) l_law_bag c_law_bag k_law_bag
  have b_law_bag := F_law_bag.binds (ps := ["cell"]) fun _ _ _ _ _ _ us hl => match us, hl with | [_], _ => rfl
  have F_law_classes := L2.fun_mk (st := slaw_classes) l_law_classes c_law_classes k_law_classes
  have b_law_classes := F_law_classes.binds (ps := ["one"]) fun _ _ _ _ _ _ us hl => match us, hl with | [_], _ => rfl
  have F_law_made := L2.fun_mk (st := slaw_made) l_law_made c_law_made k_law_made
  have b_law_made := F_law_made.binds (ps := ["number"]) fun _ _ _ _ _ _ us hl => match us, hl with | [_], _ => rfl
  have F_law_pick := L2.fun_mk (st := slaw_pick) l_law_pick c_law_pick k_law_pick
  have b_law_pick := F_law_pick.binds (ps := ["bag", "many"]) fun _ _ _ _ _ _ us hl => match us, hl with | [_, _], _ => rfl
  have F_law := L2.fun_mk (st := slaw) l_law c_law k_law
  have b_law := F_law.binds (ps := ["script"]) fun _ _ _ _ _ _ us hl => match us, hl with | [_], _ => rfl
  have T : Top K mg ⟨C_InvalidBits, C_InvalidBox, C_InvalidBoxes, C_InvalidBudget, C_InvalidCell, C_InvalidCommand, C_InvalidIndex, C_InvalidKey, C_InvalidLayout, C_InvalidLoad, C_InvalidNumber, C_InvalidOperation, C_InvalidSize, C_InvalidText, C_InvalidWord, C_LaceError, C_Nothing, C_OverBudget, C_TooMany, C_UnlikeGrids, f_law_bag, _, f_law_classes, _, f_law_made, _, f_law_pick, _, fa, _, fo_InvalidBoxes, _, fo_InvalidLoad, _, fo_InvalidText, _, fo_OverBudget, _, fo_TooMany, _, l.prog⟩ := ⟨F_law_bag, b_law_bag, PySem.W.mg_of X G a_law_bag, F_law_classes, b_law_classes, PySem.W.mg_of X G a_law_classes, F_law_made, b_law_made, PySem.W.mg_of X G a_law_made, F_law_pick, b_law_pick, PySem.W.mg_of X G a_law_pick, F_law, b_law, PySem.W.mg_of X G a_law, PySem.W.mg_of X G a_InvalidBits, PySem.W.mg_of X G a_InvalidBox, PySem.W.mg_of X G a_InvalidBoxes, PySem.W.mg_of X G a_InvalidBudget, PySem.W.mg_of X G a_InvalidCell, PySem.W.mg_of X G a_InvalidCommand, PySem.W.mg_of X G a_InvalidIndex, PySem.W.mg_of X G a_InvalidKey, PySem.W.mg_of X G a_InvalidLayout, PySem.W.mg_of X G a_InvalidLoad, PySem.W.mg_of X G a_InvalidNumber, PySem.W.mg_of X G a_InvalidOperation, PySem.W.mg_of X G a_InvalidSize, PySem.W.mg_of X G a_InvalidText, PySem.W.mg_of X G a_InvalidWord, PySem.W.mg_of X G a_LaceError, PySem.W.mg_of X G a_Nothing, PySem.W.mg_of X G a_OverBudget, PySem.W.mg_of X G a_TooMany, PySem.W.mg_of X G a_UnlikeGrids, x_InvalidBits, k_InvalidBits, rb_InvalidBits, rt_InvalidBits, ea_InvalidBits, eb_InvalidBits, ec_InvalidBits, ed_InvalidBits, ee_InvalidBits, x_InvalidBox, k_InvalidBox, rb_InvalidBox, rt_InvalidBox, ea_InvalidBox, eb_InvalidBox, ec_InvalidBox, ed_InvalidBox, ee_InvalidBox, k_InvalidBoxes, rb_InvalidBoxes, rt_InvalidBoxes, ea_InvalidBoxes, eb_InvalidBoxes, ec_InvalidBoxes, ed_InvalidBoxes, ee_InvalidBoxes, x_InvalidBudget, k_InvalidBudget, rb_InvalidBudget, rt_InvalidBudget, ea_InvalidBudget, eb_InvalidBudget, ec_InvalidBudget, ed_InvalidBudget, ee_InvalidBudget, x_InvalidCell, k_InvalidCell, rb_InvalidCell, rt_InvalidCell, ea_InvalidCell, eb_InvalidCell, ec_InvalidCell, ed_InvalidCell, ee_InvalidCell, x_InvalidCommand, k_InvalidCommand, rb_InvalidCommand, rt_InvalidCommand, ea_InvalidCommand, eb_InvalidCommand, ec_InvalidCommand, ed_InvalidCommand, ee_InvalidCommand, x_InvalidIndex, k_InvalidIndex, rb_InvalidIndex, rt_InvalidIndex, ea_InvalidIndex, eb_InvalidIndex, ec_InvalidIndex, ed_InvalidIndex, ee_InvalidIndex, x_InvalidKey, k_InvalidKey, rb_InvalidKey, rt_InvalidKey, ea_InvalidKey, eb_InvalidKey, ec_InvalidKey, ed_InvalidKey, ee_InvalidKey, x_InvalidLayout, k_InvalidLayout, rb_InvalidLayout, rt_InvalidLayout, ea_InvalidLayout, eb_InvalidLayout, ec_InvalidLayout, ed_InvalidLayout, ee_InvalidLayout, k_InvalidLoad, rb_InvalidLoad, rt_InvalidLoad, ea_InvalidLoad, eb_InvalidLoad, ec_InvalidLoad, ed_InvalidLoad, ee_InvalidLoad, x_InvalidNumber, k_InvalidNumber, rb_InvalidNumber, rt_InvalidNumber, ea_InvalidNumber, eb_InvalidNumber, ec_InvalidNumber, ed_InvalidNumber, ee_InvalidNumber, x_InvalidOperation, k_InvalidOperation, rb_InvalidOperation, rt_InvalidOperation, ea_InvalidOperation, eb_InvalidOperation, ec_InvalidOperation, ed_InvalidOperation, ee_InvalidOperation, x_InvalidSize, k_InvalidSize, rb_InvalidSize, rt_InvalidSize, ea_InvalidSize, eb_InvalidSize, ec_InvalidSize, ed_InvalidSize, ee_InvalidSize, k_InvalidText, rb_InvalidText, rt_InvalidText, ea_InvalidText, eb_InvalidText, ec_InvalidText, ed_InvalidText, ee_InvalidText, x_InvalidWord, k_InvalidWord, rb_InvalidWord, rt_InvalidWord, ea_InvalidWord, eb_InvalidWord, ec_InvalidWord, ed_InvalidWord, ee_InvalidWord, x_LaceError, k_LaceError, rb_LaceError, rt_LaceError, ea_LaceError, eb_LaceError, ec_LaceError, ed_LaceError, ee_LaceError, x_Nothing, k_Nothing, rb_Nothing, rt_Nothing, ea_Nothing, eb_Nothing, ec_Nothing, ed_Nothing, ee_Nothing, k_OverBudget, rb_OverBudget, rt_OverBudget, ea_OverBudget, eb_OverBudget, ec_OverBudget, ed_OverBudget, ee_OverBudget, k_TooMany, rb_TooMany, rt_TooMany, ea_TooMany, eb_TooMany, ec_TooMany, ed_TooMany, ee_TooMany, x_UnlikeGrids, k_UnlikeGrids, rb_UnlikeGrids, rt_UnlikeGrids, ea_UnlikeGrids, eb_UnlikeGrids, ec_UnlikeGrids, ed_UnlikeGrids, ee_UnlikeGrids, e_get, e_tak, qm_InvalidBox_InvalidBits, qm_InvalidBoxes_InvalidBits, qm_InvalidBudget_InvalidBits, qm_InvalidCell_InvalidBits, qm_InvalidCommand_InvalidBits, qm_InvalidIndex_InvalidBits, qm_InvalidKey_InvalidBits, qm_InvalidLayout_InvalidBits, qm_InvalidLoad_InvalidBits, qm_InvalidNumber_InvalidBits, qm_InvalidOperation_InvalidBits, qm_InvalidSize_InvalidBits, qm_InvalidText_InvalidBits, qm_InvalidWord_InvalidBits, qm_LaceError_InvalidBits, qm_Nothing_InvalidBits, qm_OverBudget_InvalidBits, qm_TooMany_InvalidBits, qm_UnlikeGrids_InvalidBits, ks_InvalidBits, ky_InvalidBits, qm_InvalidBits_InvalidBox, qm_InvalidBoxes_InvalidBox, qm_InvalidBudget_InvalidBox, qm_InvalidCell_InvalidBox, qm_InvalidCommand_InvalidBox, qm_InvalidIndex_InvalidBox, qm_InvalidKey_InvalidBox, qm_InvalidLayout_InvalidBox, qm_InvalidLoad_InvalidBox, qm_InvalidNumber_InvalidBox, qm_InvalidOperation_InvalidBox, qm_InvalidSize_InvalidBox, qm_InvalidText_InvalidBox, qm_InvalidWord_InvalidBox, qm_LaceError_InvalidBox, qm_Nothing_InvalidBox, qm_OverBudget_InvalidBox, qm_TooMany_InvalidBox, qm_UnlikeGrids_InvalidBox, ks_InvalidBox, ky_InvalidBox, qm_InvalidBits_InvalidBoxes, qm_InvalidBox_InvalidBoxes, qm_InvalidBudget_InvalidBoxes, qm_InvalidCell_InvalidBoxes, qm_InvalidCommand_InvalidBoxes, qm_InvalidIndex_InvalidBoxes, qm_InvalidKey_InvalidBoxes, qm_InvalidLayout_InvalidBoxes, qm_InvalidLoad_InvalidBoxes, qm_InvalidNumber_InvalidBoxes, qm_InvalidOperation_InvalidBoxes, qm_InvalidSize_InvalidBoxes, qm_InvalidText_InvalidBoxes, qm_InvalidWord_InvalidBoxes, qm_LaceError_InvalidBoxes, qm_Nothing_InvalidBoxes, qm_OverBudget_InvalidBoxes, qm_TooMany_InvalidBoxes, qm_UnlikeGrids_InvalidBoxes, ks_InvalidBoxes, ky_InvalidBoxes, qm_InvalidBits_InvalidBudget, qm_InvalidBox_InvalidBudget, qm_InvalidBoxes_InvalidBudget, qm_InvalidCell_InvalidBudget, qm_InvalidCommand_InvalidBudget, qm_InvalidIndex_InvalidBudget, qm_InvalidKey_InvalidBudget, qm_InvalidLayout_InvalidBudget, qm_InvalidLoad_InvalidBudget, qm_InvalidNumber_InvalidBudget, qm_InvalidOperation_InvalidBudget, qm_InvalidSize_InvalidBudget, qm_InvalidText_InvalidBudget, qm_InvalidWord_InvalidBudget, qm_LaceError_InvalidBudget, qm_Nothing_InvalidBudget, qm_OverBudget_InvalidBudget, qm_TooMany_InvalidBudget, qm_UnlikeGrids_InvalidBudget, ks_InvalidBudget, ky_InvalidBudget, qm_InvalidBits_InvalidCell, qm_InvalidBox_InvalidCell, qm_InvalidBoxes_InvalidCell, qm_InvalidBudget_InvalidCell, qm_InvalidCommand_InvalidCell, qm_InvalidIndex_InvalidCell, qm_InvalidKey_InvalidCell, qm_InvalidLayout_InvalidCell, qm_InvalidLoad_InvalidCell, qm_InvalidNumber_InvalidCell, qm_InvalidOperation_InvalidCell, qm_InvalidSize_InvalidCell, qm_InvalidText_InvalidCell, qm_InvalidWord_InvalidCell, qm_LaceError_InvalidCell, qm_Nothing_InvalidCell, qm_OverBudget_InvalidCell, qm_TooMany_InvalidCell, qm_UnlikeGrids_InvalidCell, ks_InvalidCell, ky_InvalidCell, qm_InvalidBits_InvalidCommand, qm_InvalidBox_InvalidCommand, qm_InvalidBoxes_InvalidCommand, qm_InvalidBudget_InvalidCommand, qm_InvalidCell_InvalidCommand, qm_InvalidIndex_InvalidCommand, qm_InvalidKey_InvalidCommand, qm_InvalidLayout_InvalidCommand, qm_InvalidLoad_InvalidCommand, qm_InvalidNumber_InvalidCommand, qm_InvalidOperation_InvalidCommand, qm_InvalidSize_InvalidCommand, qm_InvalidText_InvalidCommand, qm_InvalidWord_InvalidCommand, qm_LaceError_InvalidCommand, qm_Nothing_InvalidCommand, qm_OverBudget_InvalidCommand, qm_TooMany_InvalidCommand, qm_UnlikeGrids_InvalidCommand, ks_InvalidCommand, ky_InvalidCommand, qm_InvalidBits_InvalidIndex, qm_InvalidBox_InvalidIndex, qm_InvalidBoxes_InvalidIndex, qm_InvalidBudget_InvalidIndex, qm_InvalidCell_InvalidIndex, qm_InvalidCommand_InvalidIndex, qm_InvalidKey_InvalidIndex, qm_InvalidLayout_InvalidIndex, qm_InvalidLoad_InvalidIndex, qm_InvalidNumber_InvalidIndex, qm_InvalidOperation_InvalidIndex, qm_InvalidSize_InvalidIndex, qm_InvalidText_InvalidIndex, qm_InvalidWord_InvalidIndex, qm_LaceError_InvalidIndex, qm_Nothing_InvalidIndex, qm_OverBudget_InvalidIndex, qm_TooMany_InvalidIndex, qm_UnlikeGrids_InvalidIndex, ks_InvalidIndex, ky_InvalidIndex, qm_InvalidBits_InvalidKey, qm_InvalidBox_InvalidKey, qm_InvalidBoxes_InvalidKey, qm_InvalidBudget_InvalidKey, qm_InvalidCell_InvalidKey, qm_InvalidCommand_InvalidKey, qm_InvalidIndex_InvalidKey, qm_InvalidLayout_InvalidKey, qm_InvalidLoad_InvalidKey, qm_InvalidNumber_InvalidKey, qm_InvalidOperation_InvalidKey, qm_InvalidSize_InvalidKey, qm_InvalidText_InvalidKey, qm_InvalidWord_InvalidKey, qm_LaceError_InvalidKey, qm_Nothing_InvalidKey, qm_OverBudget_InvalidKey, qm_TooMany_InvalidKey, qm_UnlikeGrids_InvalidKey, ks_InvalidKey, ky_InvalidKey, qm_InvalidBits_InvalidLayout, qm_InvalidBox_InvalidLayout, qm_InvalidBoxes_InvalidLayout, qm_InvalidBudget_InvalidLayout, qm_InvalidCell_InvalidLayout, qm_InvalidCommand_InvalidLayout, qm_InvalidIndex_InvalidLayout, qm_InvalidKey_InvalidLayout, qm_InvalidLoad_InvalidLayout, qm_InvalidNumber_InvalidLayout, qm_InvalidOperation_InvalidLayout, qm_InvalidSize_InvalidLayout, qm_InvalidText_InvalidLayout, qm_InvalidWord_InvalidLayout, qm_LaceError_InvalidLayout, qm_Nothing_InvalidLayout, qm_OverBudget_InvalidLayout, qm_TooMany_InvalidLayout, qm_UnlikeGrids_InvalidLayout, ks_InvalidLayout, ky_InvalidLayout, qm_InvalidBits_InvalidLoad, qm_InvalidBox_InvalidLoad, qm_InvalidBoxes_InvalidLoad, qm_InvalidBudget_InvalidLoad, qm_InvalidCell_InvalidLoad, qm_InvalidCommand_InvalidLoad, qm_InvalidIndex_InvalidLoad, qm_InvalidKey_InvalidLoad, qm_InvalidLayout_InvalidLoad, qm_InvalidNumber_InvalidLoad, qm_InvalidOperation_InvalidLoad, qm_InvalidSize_InvalidLoad, qm_InvalidText_InvalidLoad, qm_InvalidWord_InvalidLoad, qm_LaceError_InvalidLoad, qm_Nothing_InvalidLoad, qm_OverBudget_InvalidLoad, qm_TooMany_InvalidLoad, qm_UnlikeGrids_InvalidLoad, ks_InvalidLoad, ky_InvalidLoad, qm_InvalidBits_InvalidNumber, qm_InvalidBox_InvalidNumber, qm_InvalidBoxes_InvalidNumber, qm_InvalidBudget_InvalidNumber, qm_InvalidCell_InvalidNumber, qm_InvalidCommand_InvalidNumber, qm_InvalidIndex_InvalidNumber, qm_InvalidKey_InvalidNumber, qm_InvalidLayout_InvalidNumber, qm_InvalidLoad_InvalidNumber, qm_InvalidOperation_InvalidNumber, qm_InvalidSize_InvalidNumber, qm_InvalidText_InvalidNumber, qm_InvalidWord_InvalidNumber, qm_LaceError_InvalidNumber, qm_Nothing_InvalidNumber, qm_OverBudget_InvalidNumber, qm_TooMany_InvalidNumber, qm_UnlikeGrids_InvalidNumber, ks_InvalidNumber, ky_InvalidNumber, qm_InvalidBits_InvalidOperation, qm_InvalidBox_InvalidOperation, qm_InvalidBoxes_InvalidOperation, qm_InvalidBudget_InvalidOperation, qm_InvalidCell_InvalidOperation, qm_InvalidCommand_InvalidOperation, qm_InvalidIndex_InvalidOperation, qm_InvalidKey_InvalidOperation, qm_InvalidLayout_InvalidOperation, qm_InvalidLoad_InvalidOperation, qm_InvalidNumber_InvalidOperation, qm_InvalidSize_InvalidOperation, qm_InvalidText_InvalidOperation, qm_InvalidWord_InvalidOperation, qm_LaceError_InvalidOperation, qm_Nothing_InvalidOperation, qm_OverBudget_InvalidOperation, qm_TooMany_InvalidOperation, qm_UnlikeGrids_InvalidOperation, ks_InvalidOperation, ky_InvalidOperation, qm_InvalidBits_InvalidSize, qm_InvalidBox_InvalidSize, qm_InvalidBoxes_InvalidSize, qm_InvalidBudget_InvalidSize, qm_InvalidCell_InvalidSize, qm_InvalidCommand_InvalidSize, qm_InvalidIndex_InvalidSize, qm_InvalidKey_InvalidSize, qm_InvalidLayout_InvalidSize, qm_InvalidLoad_InvalidSize, qm_InvalidNumber_InvalidSize, qm_InvalidOperation_InvalidSize, qm_InvalidText_InvalidSize, qm_InvalidWord_InvalidSize, qm_LaceError_InvalidSize, qm_Nothing_InvalidSize, qm_OverBudget_InvalidSize, qm_TooMany_InvalidSize, qm_UnlikeGrids_InvalidSize, ks_InvalidSize, ky_InvalidSize, qm_InvalidBits_InvalidText, qm_InvalidBox_InvalidText, qm_InvalidBoxes_InvalidText, qm_InvalidBudget_InvalidText, qm_InvalidCell_InvalidText, qm_InvalidCommand_InvalidText, qm_InvalidIndex_InvalidText, qm_InvalidKey_InvalidText, qm_InvalidLayout_InvalidText, qm_InvalidLoad_InvalidText, qm_InvalidNumber_InvalidText, qm_InvalidOperation_InvalidText, qm_InvalidSize_InvalidText, qm_InvalidWord_InvalidText, qm_LaceError_InvalidText, qm_Nothing_InvalidText, qm_OverBudget_InvalidText, qm_TooMany_InvalidText, qm_UnlikeGrids_InvalidText, ks_InvalidText, ky_InvalidText, qm_InvalidBits_InvalidWord, qm_InvalidBox_InvalidWord, qm_InvalidBoxes_InvalidWord, qm_InvalidBudget_InvalidWord, qm_InvalidCell_InvalidWord, qm_InvalidCommand_InvalidWord, qm_InvalidIndex_InvalidWord, qm_InvalidKey_InvalidWord, qm_InvalidLayout_InvalidWord, qm_InvalidLoad_InvalidWord, qm_InvalidNumber_InvalidWord, qm_InvalidOperation_InvalidWord, qm_InvalidSize_InvalidWord, qm_InvalidText_InvalidWord, qm_LaceError_InvalidWord, qm_Nothing_InvalidWord, qm_OverBudget_InvalidWord, qm_TooMany_InvalidWord, qm_UnlikeGrids_InvalidWord, ks_InvalidWord, ky_InvalidWord, qm_InvalidBits_LaceError, qm_InvalidBox_LaceError, qm_InvalidBoxes_LaceError, qm_InvalidBudget_LaceError, qm_InvalidCell_LaceError, qm_InvalidCommand_LaceError, qm_InvalidIndex_LaceError, qm_InvalidKey_LaceError, qm_InvalidLayout_LaceError, qm_InvalidLoad_LaceError, qm_InvalidNumber_LaceError, qm_InvalidOperation_LaceError, qm_InvalidSize_LaceError, qm_InvalidText_LaceError, qm_InvalidWord_LaceError, qm_Nothing_LaceError, qm_OverBudget_LaceError, qm_TooMany_LaceError, qm_UnlikeGrids_LaceError, ks_LaceError, ky_LaceError, qm_InvalidBits_Nothing, qm_InvalidBox_Nothing, qm_InvalidBoxes_Nothing, qm_InvalidBudget_Nothing, qm_InvalidCell_Nothing, qm_InvalidCommand_Nothing, qm_InvalidIndex_Nothing, qm_InvalidKey_Nothing, qm_InvalidLayout_Nothing, qm_InvalidLoad_Nothing, qm_InvalidNumber_Nothing, qm_InvalidOperation_Nothing, qm_InvalidSize_Nothing, qm_InvalidText_Nothing, qm_InvalidWord_Nothing, qm_LaceError_Nothing, qm_OverBudget_Nothing, qm_TooMany_Nothing, qm_UnlikeGrids_Nothing, ks_Nothing, ky_Nothing, qm_InvalidBits_OverBudget, qm_InvalidBox_OverBudget, qm_InvalidBoxes_OverBudget, qm_InvalidBudget_OverBudget, qm_InvalidCell_OverBudget, qm_InvalidCommand_OverBudget, qm_InvalidIndex_OverBudget, qm_InvalidKey_OverBudget, qm_InvalidLayout_OverBudget, qm_InvalidLoad_OverBudget, qm_InvalidNumber_OverBudget, qm_InvalidOperation_OverBudget, qm_InvalidSize_OverBudget, qm_InvalidText_OverBudget, qm_InvalidWord_OverBudget, qm_LaceError_OverBudget, qm_Nothing_OverBudget, qm_TooMany_OverBudget, qm_UnlikeGrids_OverBudget, ks_OverBudget, ky_OverBudget, qm_InvalidBits_TooMany, qm_InvalidBox_TooMany, qm_InvalidBoxes_TooMany, qm_InvalidBudget_TooMany, qm_InvalidCell_TooMany, qm_InvalidCommand_TooMany, qm_InvalidIndex_TooMany, qm_InvalidKey_TooMany, qm_InvalidLayout_TooMany, qm_InvalidLoad_TooMany, qm_InvalidNumber_TooMany, qm_InvalidOperation_TooMany, qm_InvalidSize_TooMany, qm_InvalidText_TooMany, qm_InvalidWord_TooMany, qm_LaceError_TooMany, qm_Nothing_TooMany, qm_OverBudget_TooMany, qm_UnlikeGrids_TooMany, ks_TooMany, ky_TooMany, qm_InvalidBits_UnlikeGrids, qm_InvalidBox_UnlikeGrids, qm_InvalidBoxes_UnlikeGrids, qm_InvalidBudget_UnlikeGrids, qm_InvalidCell_UnlikeGrids, qm_InvalidCommand_UnlikeGrids, qm_InvalidIndex_UnlikeGrids, qm_InvalidKey_UnlikeGrids, qm_InvalidLayout_UnlikeGrids, qm_InvalidLoad_UnlikeGrids, qm_InvalidNumber_UnlikeGrids, qm_InvalidOperation_UnlikeGrids, qm_InvalidSize_UnlikeGrids, qm_InvalidText_UnlikeGrids, qm_InvalidWord_UnlikeGrids, qm_LaceError_UnlikeGrids, qm_Nothing_UnlikeGrids, qm_OverBudget_UnlikeGrids, qm_TooMany_UnlikeGrids, ks_UnlikeGrids, ky_UnlikeGrids, qm_InvalidBits_ValueError, qm_InvalidBox_ValueError, qm_InvalidBoxes_ValueError, qm_InvalidBudget_ValueError, qm_InvalidCell_ValueError, qm_InvalidCommand_ValueError, qm_InvalidIndex_ValueError, qm_InvalidKey_ValueError, qm_InvalidLayout_ValueError, qm_InvalidLoad_ValueError, qm_InvalidNumber_ValueError, qm_InvalidOperation_ValueError, qm_InvalidSize_ValueError, qm_InvalidText_ValueError, qm_InvalidWord_ValueError, qm_LaceError_ValueError, qm_Nothing_ValueError, qm_OverBudget_ValueError, qm_TooMany_ValueError, qm_UnlikeGrids_ValueError, PySem.W.mg_none_of X G z_ValueError, PySem.W.mg_none_of X G z_enumerate, PySem.W.mg_none_of X G z_int, PySem.W.mg_none_of X G z_isinstance, PySem.W.mg_none_of X G z_len, PySem.W.mg_none_of X G z_max, PySem.W.mg_none_of X G z_range, ox_InvalidBoxes ol_InvalidBoxes oh_InvalidBoxes oC_InvalidBoxes orf_InvalidBoxes osa_InvalidBoxes rb_InvalidBoxes rt_InvalidBoxes k_InvalidBoxes oiC_InvalidBoxes otI_InvalidBoxes ocd_InvalidBoxes orv_InvalidBoxes orl_InvalidBoxes occ_InvalidBoxes oks_InvalidBoxes osu_InvalidBoxes ove_InvalidBoxes oan_InvalidBoxes orn_InvalidBoxes ono_InvalidBoxes oxa_InvalidBoxes oxb_InvalidBoxes oxd_InvalidBoxes, ox_InvalidLoad ol_InvalidLoad oh_InvalidLoad oC_InvalidLoad orf_InvalidLoad osa_InvalidLoad rb_InvalidLoad rt_InvalidLoad k_InvalidLoad oiC_InvalidLoad otI_InvalidLoad ocd_InvalidLoad orv_InvalidLoad orl_InvalidLoad occ_InvalidLoad oks_InvalidLoad osu_InvalidLoad ove_InvalidLoad oan_InvalidLoad orn_InvalidLoad ono_InvalidLoad oxa_InvalidLoad oxb_InvalidLoad oxd_InvalidLoad, ox_InvalidText ol_InvalidText oh_InvalidText oC_InvalidText orf_InvalidText osa_InvalidText rb_InvalidText rt_InvalidText k_InvalidText oiC_InvalidText otI_InvalidText ocd_InvalidText orv_InvalidText orl_InvalidText occ_InvalidText oks_InvalidText osu_InvalidText ove_InvalidText oan_InvalidText orn_InvalidText ono_InvalidText oxa_InvalidText oxb_InvalidText oxd_InvalidText, ox_OverBudget ol_OverBudget oh_OverBudget oC_OverBudget orf_OverBudget osa_OverBudget rb_OverBudget rt_OverBudget k_OverBudget oiC_OverBudget otI_OverBudget ocd_OverBudget orv_OverBudget orl_OverBudget occ_OverBudget oks_OverBudget osu_OverBudget ove_OverBudget oan_OverBudget orn_OverBudget ono_OverBudget oxa_OverBudget oxb_OverBudget oxd_OverBudget, ox_TooMany ol_TooMany oh_TooMany oC_TooMany orf_TooMany osa_TooMany rb_TooMany rt_TooMany k_TooMany oiC_TooMany otI_TooMany ocd_TooMany orv_TooMany orl_TooMany occ_TooMany oks_TooMany osu_TooMany ove_TooMany oan_TooMany orn_TooMany ono_TooMany oxa_TooMany oxb_TooMany oxd_TooMany, PySem.W.mg_none_of X G z_super⟩
  exact ⟨(), PySem.W.fnOf "law" "law" (defArgs slaw) (defBody slaw) (defScope slaw) .none kV_law dc_law pm_law an_law cd_law ct_law, fun s v => .of_eq rfl, fun base _ _ => ok_law_any (w := w) (base := base) T⟩
theorem all_mk2 {l : PySem.W.OpenLaw} {w : World} {K : PySem.W.Frag} {mg : Str → Option Value} {fa : Addr} (h : ∃ (Z : Unit) (fd : FuncData), (∀ (s : Shared) (v : Value), BindsTo s fd ⟨[v], []⟩ [("script", v)]) ∧ ∀ base : Heap, K.In base → base.Ns mainGlobals mg → Lk.FnG l.prog w K mg base 4 fa fd ["script"] (splaw_any K)) :
    ∃ fd : FuncData, (∀ (s : Shared) (v : Value), BindsTo s fd ⟨[v], []⟩ [("script", v)]) ∧ ∀ base : Heap, K.In base → base.Ns mainGlobals mg → Lk.FnG l.prog w K mg base 4 fa fd ["script"] (splaw_any K) := by
  obtain ⟨Z, fd, h1, h2⟩ := h
  exact ⟨fd, h1, h2⟩
end Lw
open PySem PySem.W PyProof.Rows
set_option maxHeartbeats 0 in
theorem PySem.Challenge.cw_lacekeys_k51_errors_made_holds : PySem.Challenge.rw_lacekeys_k51_errors_made.Holds := by
  w_on; o_law; k_head; (case hw => w_witness2)
  k_fill
  refine Lk.walkG (l := PySem.Challenge.rw_lacekeys_k51_errors_made) (n := 63) (k := 4) (x := "script") (sp := fun w => Lw.splaw_any _) rfl (by decide) rfl ⟨rfl, by decide, by decide⟩ (fun w h Y => PySem.W.kIn_of Y) ?F (fun _ _ a ns hl _ hS => ⟨a, ns, rfl, hS, hl, fun _ => rfl⟩)
  case F =>
    intro w mg fa h KX G hmg
    refine' Lw.all_mk2 (Lw.all_mk (l := PySem.Challenge.rw_lacekeys_k51_errors_made) (w := w) KX G hmg ?a_law_bag ?l_law_bag ?c_law_bag ?k_law_bag ?a_law_classes ?l_law_classes ?c_law_classes ?k_law_classes ?a_law_made ?l_law_made ?c_law_made ?k_law_made ?a_law_pick ?l_law_pick ?c_law_pick ?k_law_pick ?a_law ?l_law ?c_law ?k_law ?a_InvalidBits ?a_InvalidBox ?a_InvalidBoxes ?a_InvalidBudget ?a_InvalidCell ?a_InvalidCommand ?a_InvalidIndex ?a_InvalidKey ?a_InvalidLayout ?a_InvalidLoad ?a_InvalidNumber ?a_InvalidOperation ?a_InvalidSize ?a_InvalidText ?a_InvalidWord ?a_LaceError ?a_Nothing ?a_OverBudget ?a_TooMany ?a_UnlikeGrids ?x_InvalidBits ?k_InvalidBits ?rb_InvalidBits ?rt_InvalidBits ?ea_InvalidBits ?eb_InvalidBits ?ec_InvalidBits ?ed_InvalidBits ?ee_InvalidBits ?x_InvalidBox ?k_InvalidBox ?rb_InvalidBox ?rt_InvalidBox ?ea_InvalidBox ?eb_InvalidBox ?ec_InvalidBox ?ed_InvalidBox ?ee_InvalidBox ?k_InvalidBoxes ?rb_InvalidBoxes ?rt_InvalidBoxes ?ea_InvalidBoxes ?eb_InvalidBoxes ?ec_InvalidBoxes ?ed_InvalidBoxes ?ee_InvalidBoxes ?x_InvalidBudget ?k_InvalidBudget ?rb_InvalidBudget ?rt_InvalidBudget ?ea_InvalidBudget ?eb_InvalidBudget ?ec_InvalidBudget ?ed_InvalidBudget ?ee_InvalidBudget ?x_InvalidCell ?k_InvalidCell ?rb_InvalidCell ?rt_InvalidCell ?ea_InvalidCell ?eb_InvalidCell ?ec_InvalidCell ?ed_InvalidCell ?ee_InvalidCell ?x_InvalidCommand ?k_InvalidCommand ?rb_InvalidCommand ?rt_InvalidCommand ?ea_InvalidCommand ?eb_InvalidCommand ?ec_InvalidCommand ?ed_InvalidCommand ?ee_InvalidCommand ?x_InvalidIndex ?k_InvalidIndex ?rb_InvalidIndex ?rt_InvalidIndex ?ea_InvalidIndex ?eb_InvalidIndex ?ec_InvalidIndex ?ed_InvalidIndex ?ee_InvalidIndex ?x_InvalidKey ?k_InvalidKey ?rb_InvalidKey ?rt_InvalidKey ?ea_InvalidKey ?eb_InvalidKey ?ec_InvalidKey ?ed_InvalidKey ?ee_InvalidKey ?x_InvalidLayout ?k_InvalidLayout ?rb_InvalidLayout ?rt_InvalidLayout ?ea_InvalidLayout ?eb_InvalidLayout ?ec_InvalidLayout ?ed_InvalidLayout ?ee_InvalidLayout ?k_InvalidLoad ?rb_InvalidLoad ?rt_InvalidLoad ?ea_InvalidLoad ?eb_InvalidLoad ?ec_InvalidLoad ?ed_InvalidLoad ?ee_InvalidLoad ?x_InvalidNumber ?k_InvalidNumber ?rb_InvalidNumber ?rt_InvalidNumber ?ea_InvalidNumber ?eb_InvalidNumber ?ec_InvalidNumber ?ed_InvalidNumber ?ee_InvalidNumber ?x_InvalidOperation ?k_InvalidOperation ?rb_InvalidOperation ?rt_InvalidOperation ?ea_InvalidOperation ?eb_InvalidOperation ?ec_InvalidOperation ?ed_InvalidOperation ?ee_InvalidOperation ?x_InvalidSize ?k_InvalidSize ?rb_InvalidSize ?rt_InvalidSize ?ea_InvalidSize ?eb_InvalidSize ?ec_InvalidSize ?ed_InvalidSize ?ee_InvalidSize ?k_InvalidText ?rb_InvalidText ?rt_InvalidText ?ea_InvalidText ?eb_InvalidText ?ec_InvalidText ?ed_InvalidText ?ee_InvalidText ?x_InvalidWord ?k_InvalidWord ?rb_InvalidWord ?rt_InvalidWord ?ea_InvalidWord ?eb_InvalidWord ?ec_InvalidWord ?ed_InvalidWord ?ee_InvalidWord ?x_LaceError ?k_LaceError ?rb_LaceError ?rt_LaceError ?ea_LaceError ?eb_LaceError ?ec_LaceError ?ed_LaceError ?ee_LaceError ?x_Nothing ?k_Nothing ?rb_Nothing ?rt_Nothing ?ea_Nothing ?eb_Nothing ?ec_Nothing ?ed_Nothing ?ee_Nothing ?k_OverBudget ?rb_OverBudget ?rt_OverBudget ?ea_OverBudget ?eb_OverBudget ?ec_OverBudget ?ed_OverBudget ?ee_OverBudget ?k_TooMany ?rb_TooMany ?rt_TooMany ?ea_TooMany ?eb_TooMany ?ec_TooMany ?ed_TooMany ?ee_TooMany ?x_UnlikeGrids ?k_UnlikeGrids ?rb_UnlikeGrids ?rt_UnlikeGrids ?ea_UnlikeGrids ?eb_UnlikeGrids ?ec_UnlikeGrids ?ed_UnlikeGrids ?ee_UnlikeGrids ?e_get ?e_tak ?qm_InvalidBox_InvalidBits ?qm_InvalidBoxes_InvalidBits ?qm_InvalidBudget_InvalidBits ?qm_InvalidCell_InvalidBits ?qm_InvalidCommand_InvalidBits ?qm_InvalidIndex_InvalidBits ?qm_InvalidKey_InvalidBits ?qm_InvalidLayout_InvalidBits ?qm_InvalidLoad_InvalidBits ?qm_InvalidNumber_InvalidBits ?qm_InvalidOperation_InvalidBits ?qm_InvalidSize_InvalidBits ?qm_InvalidText_InvalidBits ?qm_InvalidWord_InvalidBits ?qm_LaceError_InvalidBits ?qm_Nothing_InvalidBits ?qm_OverBudget_InvalidBits ?qm_TooMany_InvalidBits ?qm_UnlikeGrids_InvalidBits ?ks_InvalidBits ?ky_InvalidBits ?qm_InvalidBits_InvalidBox ?qm_InvalidBoxes_InvalidBox ?qm_InvalidBudget_InvalidBox ?qm_InvalidCell_InvalidBox ?qm_InvalidCommand_InvalidBox ?qm_InvalidIndex_InvalidBox ?qm_InvalidKey_InvalidBox ?qm_InvalidLayout_InvalidBox ?qm_InvalidLoad_InvalidBox ?qm_InvalidNumber_InvalidBox ?qm_InvalidOperation_InvalidBox ?qm_InvalidSize_InvalidBox ?qm_InvalidText_InvalidBox ?qm_InvalidWord_InvalidBox ?qm_LaceError_InvalidBox ?qm_Nothing_InvalidBox ?qm_OverBudget_InvalidBox ?qm_TooMany_InvalidBox ?qm_UnlikeGrids_InvalidBox ?ks_InvalidBox ?ky_InvalidBox ?qm_InvalidBits_InvalidBoxes ?qm_InvalidBox_InvalidBoxes ?qm_InvalidBudget_InvalidBoxes ?qm_InvalidCell_InvalidBoxes ?qm_InvalidCommand_InvalidBoxes ?qm_InvalidIndex_InvalidBoxes ?qm_InvalidKey_InvalidBoxes ?qm_InvalidLayout_InvalidBoxes ?qm_InvalidLoad_InvalidBoxes ?qm_InvalidNumber_InvalidBoxes ?qm_InvalidOperation_InvalidBoxes ?qm_InvalidSize_InvalidBoxes ?qm_InvalidText_InvalidBoxes ?qm_InvalidWord_InvalidBoxes ?qm_LaceError_InvalidBoxes ?qm_Nothing_InvalidBoxes ?qm_OverBudget_InvalidBoxes ?qm_TooMany_InvalidBoxes ?qm_UnlikeGrids_InvalidBoxes ?ks_InvalidBoxes ?ky_InvalidBoxes ?qm_InvalidBits_InvalidBudget ?qm_InvalidBox_InvalidBudget ?qm_InvalidBoxes_InvalidBudget ?qm_InvalidCell_InvalidBudget ?qm_InvalidCommand_InvalidBudget ?qm_InvalidIndex_InvalidBudget ?qm_InvalidKey_InvalidBudget ?qm_InvalidLayout_InvalidBudget ?qm_InvalidLoad_InvalidBudget ?qm_InvalidNumber_InvalidBudget ?qm_InvalidOperation_InvalidBudget ?qm_InvalidSize_InvalidBudget ?qm_InvalidText_InvalidBudget ?qm_InvalidWord_InvalidBudget ?qm_LaceError_InvalidBudget ?qm_Nothing_InvalidBudget ?qm_OverBudget_InvalidBudget ?qm_TooMany_InvalidBudget ?qm_UnlikeGrids_InvalidBudget ?ks_InvalidBudget ?ky_InvalidBudget ?qm_InvalidBits_InvalidCell ?qm_InvalidBox_InvalidCell ?qm_InvalidBoxes_InvalidCell ?qm_InvalidBudget_InvalidCell ?qm_InvalidCommand_InvalidCell ?qm_InvalidIndex_InvalidCell ?qm_InvalidKey_InvalidCell ?qm_InvalidLayout_InvalidCell ?qm_InvalidLoad_InvalidCell ?qm_InvalidNumber_InvalidCell ?qm_InvalidOperation_InvalidCell ?qm_InvalidSize_InvalidCell ?qm_InvalidText_InvalidCell ?qm_InvalidWord_InvalidCell ?qm_LaceError_InvalidCell ?qm_Nothing_InvalidCell ?qm_OverBudget_InvalidCell ?qm_TooMany_InvalidCell ?qm_UnlikeGrids_InvalidCell ?ks_InvalidCell ?ky_InvalidCell ?qm_InvalidBits_InvalidCommand ?qm_InvalidBox_InvalidCommand ?qm_InvalidBoxes_InvalidCommand ?qm_InvalidBudget_InvalidCommand ?qm_InvalidCell_InvalidCommand ?qm_InvalidIndex_InvalidCommand ?qm_InvalidKey_InvalidCommand ?qm_InvalidLayout_InvalidCommand ?qm_InvalidLoad_InvalidCommand ?qm_InvalidNumber_InvalidCommand ?qm_InvalidOperation_InvalidCommand ?qm_InvalidSize_InvalidCommand ?qm_InvalidText_InvalidCommand ?qm_InvalidWord_InvalidCommand ?qm_LaceError_InvalidCommand ?qm_Nothing_InvalidCommand ?qm_OverBudget_InvalidCommand ?qm_TooMany_InvalidCommand ?qm_UnlikeGrids_InvalidCommand ?ks_InvalidCommand ?ky_InvalidCommand ?qm_InvalidBits_InvalidIndex ?qm_InvalidBox_InvalidIndex ?qm_InvalidBoxes_InvalidIndex ?qm_InvalidBudget_InvalidIndex ?qm_InvalidCell_InvalidIndex ?qm_InvalidCommand_InvalidIndex ?qm_InvalidKey_InvalidIndex ?qm_InvalidLayout_InvalidIndex ?qm_InvalidLoad_InvalidIndex ?qm_InvalidNumber_InvalidIndex ?qm_InvalidOperation_InvalidIndex ?qm_InvalidSize_InvalidIndex ?qm_InvalidText_InvalidIndex ?qm_InvalidWord_InvalidIndex ?qm_LaceError_InvalidIndex ?qm_Nothing_InvalidIndex ?qm_OverBudget_InvalidIndex ?qm_TooMany_InvalidIndex ?qm_UnlikeGrids_InvalidIndex ?ks_InvalidIndex ?ky_InvalidIndex ?qm_InvalidBits_InvalidKey ?qm_InvalidBox_InvalidKey ?qm_InvalidBoxes_InvalidKey ?qm_InvalidBudget_InvalidKey ?qm_InvalidCell_InvalidKey ?qm_InvalidCommand_InvalidKey ?qm_InvalidIndex_InvalidKey ?qm_InvalidLayout_InvalidKey ?qm_InvalidLoad_InvalidKey ?qm_InvalidNumber_InvalidKey ?qm_InvalidOperation_InvalidKey ?qm_InvalidSize_InvalidKey ?qm_InvalidText_InvalidKey ?qm_InvalidWord_InvalidKey ?qm_LaceError_InvalidKey ?qm_Nothing_InvalidKey ?qm_OverBudget_InvalidKey ?qm_TooMany_InvalidKey ?qm_UnlikeGrids_InvalidKey ?ks_InvalidKey ?ky_InvalidKey ?qm_InvalidBits_InvalidLayout ?qm_InvalidBox_InvalidLayout ?qm_InvalidBoxes_InvalidLayout ?qm_InvalidBudget_InvalidLayout ?qm_InvalidCell_InvalidLayout ?qm_InvalidCommand_InvalidLayout ?qm_InvalidIndex_InvalidLayout ?qm_InvalidKey_InvalidLayout ?qm_InvalidLoad_InvalidLayout ?qm_InvalidNumber_InvalidLayout ?qm_InvalidOperation_InvalidLayout ?qm_InvalidSize_InvalidLayout ?qm_InvalidText_InvalidLayout ?qm_InvalidWord_InvalidLayout ?qm_LaceError_InvalidLayout ?qm_Nothing_InvalidLayout ?qm_OverBudget_InvalidLayout ?qm_TooMany_InvalidLayout ?qm_UnlikeGrids_InvalidLayout ?ks_InvalidLayout ?ky_InvalidLayout ?qm_InvalidBits_InvalidLoad ?qm_InvalidBox_InvalidLoad ?qm_InvalidBoxes_InvalidLoad ?qm_InvalidBudget_InvalidLoad ?qm_InvalidCell_InvalidLoad ?qm_InvalidCommand_InvalidLoad ?qm_InvalidIndex_InvalidLoad ?qm_InvalidKey_InvalidLoad ?qm_InvalidLayout_InvalidLoad ?qm_InvalidNumber_InvalidLoad ?qm_InvalidOperation_InvalidLoad ?qm_InvalidSize_InvalidLoad ?qm_InvalidText_InvalidLoad ?qm_InvalidWord_InvalidLoad ?qm_LaceError_InvalidLoad ?qm_Nothing_InvalidLoad ?qm_OverBudget_InvalidLoad ?qm_TooMany_InvalidLoad ?qm_UnlikeGrids_InvalidLoad ?ks_InvalidLoad ?ky_InvalidLoad ?qm_InvalidBits_InvalidNumber ?qm_InvalidBox_InvalidNumber ?qm_InvalidBoxes_InvalidNumber ?qm_InvalidBudget_InvalidNumber ?qm_InvalidCell_InvalidNumber ?qm_InvalidCommand_InvalidNumber ?qm_InvalidIndex_InvalidNumber ?qm_InvalidKey_InvalidNumber ?qm_InvalidLayout_InvalidNumber ?qm_InvalidLoad_InvalidNumber ?qm_InvalidOperation_InvalidNumber ?qm_InvalidSize_InvalidNumber ?qm_InvalidText_InvalidNumber ?qm_InvalidWord_InvalidNumber ?qm_LaceError_InvalidNumber ?qm_Nothing_InvalidNumber ?qm_OverBudget_InvalidNumber ?qm_TooMany_InvalidNumber ?qm_UnlikeGrids_InvalidNumber ?ks_InvalidNumber ?ky_InvalidNumber ?qm_InvalidBits_InvalidOperation ?qm_InvalidBox_InvalidOperation ?qm_InvalidBoxes_InvalidOperation ?qm_InvalidBudget_InvalidOperation ?qm_InvalidCell_InvalidOperation ?qm_InvalidCommand_InvalidOperation ?qm_InvalidIndex_InvalidOperation ?qm_InvalidKey_InvalidOperation ?qm_InvalidLayout_InvalidOperation ?qm_InvalidLoad_InvalidOperation ?qm_InvalidNumber_InvalidOperation ?qm_InvalidSize_InvalidOperation ?qm_InvalidText_InvalidOperation ?qm_InvalidWord_InvalidOperation ?qm_LaceError_InvalidOperation ?qm_Nothing_InvalidOperation ?qm_OverBudget_InvalidOperation ?qm_TooMany_InvalidOperation ?qm_UnlikeGrids_InvalidOperation ?ks_InvalidOperation ?ky_InvalidOperation ?qm_InvalidBits_InvalidSize ?qm_InvalidBox_InvalidSize ?qm_InvalidBoxes_InvalidSize ?qm_InvalidBudget_InvalidSize ?qm_InvalidCell_InvalidSize ?qm_InvalidCommand_InvalidSize ?qm_InvalidIndex_InvalidSize ?qm_InvalidKey_InvalidSize ?qm_InvalidLayout_InvalidSize ?qm_InvalidLoad_InvalidSize ?qm_InvalidNumber_InvalidSize ?qm_InvalidOperation_InvalidSize ?qm_InvalidText_InvalidSize ?qm_InvalidWord_InvalidSize ?qm_LaceError_InvalidSize ?qm_Nothing_InvalidSize ?qm_OverBudget_InvalidSize ?qm_TooMany_InvalidSize ?qm_UnlikeGrids_InvalidSize ?ks_InvalidSize ?ky_InvalidSize ?qm_InvalidBits_InvalidText ?qm_InvalidBox_InvalidText ?qm_InvalidBoxes_InvalidText ?qm_InvalidBudget_InvalidText ?qm_InvalidCell_InvalidText ?qm_InvalidCommand_InvalidText ?qm_InvalidIndex_InvalidText ?qm_InvalidKey_InvalidText ?qm_InvalidLayout_InvalidText ?qm_InvalidLoad_InvalidText ?qm_InvalidNumber_InvalidText ?qm_InvalidOperation_InvalidText ?qm_InvalidSize_InvalidText ?qm_InvalidWord_InvalidText ?qm_LaceError_InvalidText ?qm_Nothing_InvalidText ?qm_OverBudget_InvalidText ?qm_TooMany_InvalidText ?qm_UnlikeGrids_InvalidText ?ks_InvalidText ?ky_InvalidText ?qm_InvalidBits_InvalidWord ?qm_InvalidBox_InvalidWord ?qm_InvalidBoxes_InvalidWord ?qm_InvalidBudget_InvalidWord ?qm_InvalidCell_InvalidWord ?qm_InvalidCommand_InvalidWord ?qm_InvalidIndex_InvalidWord ?qm_InvalidKey_InvalidWord ?qm_InvalidLayout_InvalidWord ?qm_InvalidLoad_InvalidWord ?qm_InvalidNumber_InvalidWord ?qm_InvalidOperation_InvalidWord ?qm_InvalidSize_InvalidWord ?qm_InvalidText_InvalidWord ?qm_LaceError_InvalidWord ?qm_Nothing_InvalidWord ?qm_OverBudget_InvalidWord ?qm_TooMany_InvalidWord ?qm_UnlikeGrids_InvalidWord ?ks_InvalidWord ?ky_InvalidWord ?qm_InvalidBits_LaceError ?qm_InvalidBox_LaceError ?qm_InvalidBoxes_LaceError ?qm_InvalidBudget_LaceError ?qm_InvalidCell_LaceError ?qm_InvalidCommand_LaceError ?qm_InvalidIndex_LaceError ?qm_InvalidKey_LaceError ?qm_InvalidLayout_LaceError ?qm_InvalidLoad_LaceError ?qm_InvalidNumber_LaceError ?qm_InvalidOperation_LaceError ?qm_InvalidSize_LaceError ?qm_InvalidText_LaceError ?qm_InvalidWord_LaceError ?qm_Nothing_LaceError ?qm_OverBudget_LaceError ?qm_TooMany_LaceError ?qm_UnlikeGrids_LaceError ?ks_LaceError ?ky_LaceError ?qm_InvalidBits_Nothing ?qm_InvalidBox_Nothing ?qm_InvalidBoxes_Nothing ?qm_InvalidBudget_Nothing ?qm_InvalidCell_Nothing ?qm_InvalidCommand_Nothing ?qm_InvalidIndex_Nothing ?qm_InvalidKey_Nothing ?qm_InvalidLayout_Nothing ?qm_InvalidLoad_Nothing ?qm_InvalidNumber_Nothing ?qm_InvalidOperation_Nothing ?qm_InvalidSize_Nothing ?qm_InvalidText_Nothing ?qm_InvalidWord_Nothing ?qm_LaceError_Nothing ?qm_OverBudget_Nothing ?qm_TooMany_Nothing ?qm_UnlikeGrids_Nothing ?ks_Nothing ?ky_Nothing ?qm_InvalidBits_OverBudget ?qm_InvalidBox_OverBudget ?qm_InvalidBoxes_OverBudget ?qm_InvalidBudget_OverBudget ?qm_InvalidCell_OverBudget ?qm_InvalidCommand_OverBudget ?qm_InvalidIndex_OverBudget ?qm_InvalidKey_OverBudget ?qm_InvalidLayout_OverBudget ?qm_InvalidLoad_OverBudget ?qm_InvalidNumber_OverBudget ?qm_InvalidOperation_OverBudget ?qm_InvalidSize_OverBudget ?qm_InvalidText_OverBudget ?qm_InvalidWord_OverBudget ?qm_LaceError_OverBudget ?qm_Nothing_OverBudget ?qm_TooMany_OverBudget ?qm_UnlikeGrids_OverBudget ?ks_OverBudget ?ky_OverBudget ?qm_InvalidBits_TooMany ?qm_InvalidBox_TooMany ?qm_InvalidBoxes_TooMany ?qm_InvalidBudget_TooMany ?qm_InvalidCell_TooMany ?qm_InvalidCommand_TooMany ?qm_InvalidIndex_TooMany ?qm_InvalidKey_TooMany ?qm_InvalidLayout_TooMany ?qm_InvalidLoad_TooMany ?qm_InvalidNumber_TooMany ?qm_InvalidOperation_TooMany ?qm_InvalidSize_TooMany ?qm_InvalidText_TooMany ?qm_InvalidWord_TooMany ?qm_LaceError_TooMany ?qm_Nothing_TooMany ?qm_OverBudget_TooMany ?qm_UnlikeGrids_TooMany ?ks_TooMany ?ky_TooMany ?qm_InvalidBits_UnlikeGrids ?qm_InvalidBox_UnlikeGrids ?qm_InvalidBoxes_UnlikeGrids ?qm_InvalidBudget_UnlikeGrids ?qm_InvalidCell_UnlikeGrids ?qm_InvalidCommand_UnlikeGrids ?qm_InvalidIndex_UnlikeGrids ?qm_InvalidKey_UnlikeGrids ?qm_InvalidLayout_UnlikeGrids ?qm_InvalidLoad_UnlikeGrids ?qm_InvalidNumber_UnlikeGrids ?qm_InvalidOperation_UnlikeGrids ?qm_InvalidSize_UnlikeGrids ?qm_InvalidText_UnlikeGrids ?qm_InvalidWord_UnlikeGrids ?qm_LaceError_UnlikeGrids ?qm_Nothing_UnlikeGrids ?qm_OverBudget_UnlikeGrids ?qm_TooMany_UnlikeGrids ?ks_UnlikeGrids ?ky_UnlikeGrids ?qm_InvalidBits_ValueError ?qm_InvalidBox_ValueError ?qm_InvalidBoxes_ValueError ?qm_InvalidBudget_ValueError ?qm_InvalidCell_ValueError ?qm_InvalidCommand_ValueError ?qm_InvalidIndex_ValueError ?qm_InvalidKey_ValueError ?qm_InvalidLayout_ValueError ?qm_InvalidLoad_ValueError ?qm_InvalidNumber_ValueError ?qm_InvalidOperation_ValueError ?qm_InvalidSize_ValueError ?qm_InvalidText_ValueError ?qm_InvalidWord_ValueError ?qm_LaceError_ValueError ?qm_Nothing_ValueError ?qm_OverBudget_ValueError ?qm_TooMany_ValueError ?qm_UnlikeGrids_ValueError ?z_ValueError ?z_enumerate ?z_int ?z_isinstance ?z_len ?z_max ?z_range ?oiC_InvalidBoxes ?otI_InvalidBoxes ?ol_InvalidBoxes ?oh_InvalidBoxes ?oC_InvalidBoxes ?orf_InvalidBoxes ?osa_InvalidBoxes ?ocd_InvalidBoxes ?orv_InvalidBoxes ?orl_InvalidBoxes ?occ_InvalidBoxes ?oks_InvalidBoxes ?osu_InvalidBoxes ?ove_InvalidBoxes ?oan_InvalidBoxes ?orn_InvalidBoxes ?ono_InvalidBoxes ?oxa_InvalidBoxes ?oxb_InvalidBoxes ?oxd_InvalidBoxes ?oiC_InvalidLoad ?otI_InvalidLoad ?ol_InvalidLoad ?oh_InvalidLoad ?oC_InvalidLoad ?orf_InvalidLoad ?osa_InvalidLoad ?ocd_InvalidLoad ?orv_InvalidLoad ?orl_InvalidLoad ?occ_InvalidLoad ?oks_InvalidLoad ?osu_InvalidLoad ?ove_InvalidLoad ?oan_InvalidLoad ?orn_InvalidLoad ?ono_InvalidLoad ?oxa_InvalidLoad ?oxb_InvalidLoad ?oxd_InvalidLoad ?oiC_InvalidText ?otI_InvalidText ?ol_InvalidText ?oh_InvalidText ?oC_InvalidText ?orf_InvalidText ?osa_InvalidText ?ocd_InvalidText ?orv_InvalidText ?orl_InvalidText ?occ_InvalidText ?oks_InvalidText ?osu_InvalidText ?ove_InvalidText ?oan_InvalidText ?orn_InvalidText ?ono_InvalidText ?oxa_InvalidText ?oxb_InvalidText ?oxd_InvalidText ?oiC_OverBudget ?otI_OverBudget ?ol_OverBudget ?oh_OverBudget ?oC_OverBudget ?orf_OverBudget ?osa_OverBudget ?ocd_OverBudget ?orv_OverBudget ?orl_OverBudget ?occ_OverBudget ?oks_OverBudget ?osu_OverBudget ?ove_OverBudget ?oan_OverBudget ?orn_OverBudget ?ono_OverBudget ?oxa_OverBudget ?oxb_OverBudget ?oxd_OverBudget ?oiC_TooMany ?otI_TooMany ?ol_TooMany ?oh_TooMany ?oC_TooMany ?orf_TooMany ?osa_TooMany ?ocd_TooMany ?orv_TooMany ?orl_TooMany ?occ_TooMany ?oks_TooMany ?osu_TooMany ?ove_TooMany ?oan_TooMany ?orn_TooMany ?ono_TooMany ?oxa_TooMany ?oxb_TooMany ?oxd_TooMany ?z_super)
    (case a_law_bag => k_is)
    (case l_law_bag => k_is)
    (case c_law_bag => k_is)
    (case k_law_bag => k_is)
    (case a_law_classes => k_is)
    (case l_law_classes => k_is)
    (case c_law_classes => k_is)
    (case k_law_classes => k_is)
    (case a_law_made => k_is)
    (case l_law_made => k_is)
    (case c_law_made => k_is)
    (case k_law_made => k_is)
    (case a_law_pick => k_is)
    (case l_law_pick => k_is)
    (case c_law_pick => k_is)
    (case k_law_pick => k_is)
    (case a_law => k_is)
    (case l_law => k_is)
    (case c_law => k_is)
    (case k_law => k_is)
    (case a_InvalidBits => k_is)
    (case a_InvalidBox => k_is)
    (case a_InvalidBoxes => k_is)
    (case a_InvalidBudget => k_is)
    (case a_InvalidCell => k_is)
    (case a_InvalidCommand => k_is)
    (case a_InvalidIndex => k_is)
    (case a_InvalidKey => k_is)
    (case a_InvalidLayout => k_is)
    (case a_InvalidLoad => k_is)
    (case a_InvalidNumber => k_is)
    (case a_InvalidOperation => k_is)
    (case a_InvalidSize => k_is)
    (case a_InvalidText => k_is)
    (case a_InvalidWord => k_is)
    (case a_LaceError => k_is)
    (case a_Nothing => k_is)
    (case a_OverBudget => k_is)
    (case a_TooMany => k_is)
    (case a_UnlikeGrids => k_is)
    (case x_InvalidBits => k_exc)
    (case k_InvalidBits => k_is)
    (case rb_InvalidBits => k_is)
    (case rt_InvalidBits => k_is)
    (case ea_InvalidBits => k_is)
    (case eb_InvalidBits => k_is)
    (case ec_InvalidBits => k_is)
    (case ed_InvalidBits => k_is)
    (case ee_InvalidBits => k_is)
    (case x_InvalidBox => k_exc)
    (case k_InvalidBox => k_is)
    (case rb_InvalidBox => k_is)
    (case rt_InvalidBox => k_is)
    (case ea_InvalidBox => k_is)
    (case eb_InvalidBox => k_is)
    (case ec_InvalidBox => k_is)
    (case ed_InvalidBox => k_is)
    (case ee_InvalidBox => k_is)
    (case k_InvalidBoxes => k_is)
    (case rb_InvalidBoxes => k_is)
    (case rt_InvalidBoxes => k_is)
    (case ea_InvalidBoxes => k_is)
    (case eb_InvalidBoxes => k_is)
    (case ec_InvalidBoxes => k_is)
    (case ed_InvalidBoxes => k_is)
    (case ee_InvalidBoxes => k_is)
    (case x_InvalidBudget => k_exc)
    (case k_InvalidBudget => k_is)
    (case rb_InvalidBudget => k_is)
    (case rt_InvalidBudget => k_is)
    (case ea_InvalidBudget => k_is)
    (case eb_InvalidBudget => k_is)
    (case ec_InvalidBudget => k_is)
    (case ed_InvalidBudget => k_is)
    (case ee_InvalidBudget => k_is)
    (case x_InvalidCell => k_exc)
    (case k_InvalidCell => k_is)
    (case rb_InvalidCell => k_is)
    (case rt_InvalidCell => k_is)
    (case ea_InvalidCell => k_is)
    (case eb_InvalidCell => k_is)
    (case ec_InvalidCell => k_is)
    (case ed_InvalidCell => k_is)
    (case ee_InvalidCell => k_is)
    (case x_InvalidCommand => k_exc)
    (case k_InvalidCommand => k_is)
    (case rb_InvalidCommand => k_is)
    (case rt_InvalidCommand => k_is)
    (case ea_InvalidCommand => k_is)
    (case eb_InvalidCommand => k_is)
    (case ec_InvalidCommand => k_is)
    (case ed_InvalidCommand => k_is)
    (case ee_InvalidCommand => k_is)
    (case x_InvalidIndex => k_exc)
    (case k_InvalidIndex => k_is)
    (case rb_InvalidIndex => k_is)
    (case rt_InvalidIndex => k_is)
    (case ea_InvalidIndex => k_is)
    (case eb_InvalidIndex => k_is)
    (case ec_InvalidIndex => k_is)
    (case ed_InvalidIndex => k_is)
    (case ee_InvalidIndex => k_is)
    (case x_InvalidKey => k_exc)
    (case k_InvalidKey => k_is)
    (case rb_InvalidKey => k_is)
    (case rt_InvalidKey => k_is)
    (case ea_InvalidKey => k_is)
    (case eb_InvalidKey => k_is)
    (case ec_InvalidKey => k_is)
    (case ed_InvalidKey => k_is)
    (case ee_InvalidKey => k_is)
    (case x_InvalidLayout => k_exc)
    (case k_InvalidLayout => k_is)
    (case rb_InvalidLayout => k_is)
    (case rt_InvalidLayout => k_is)
    (case ea_InvalidLayout => k_is)
    (case eb_InvalidLayout => k_is)
    (case ec_InvalidLayout => k_is)
    (case ed_InvalidLayout => k_is)
    (case ee_InvalidLayout => k_is)
    (case k_InvalidLoad => k_is)
    (case rb_InvalidLoad => k_is)
    (case rt_InvalidLoad => k_is)
    (case ea_InvalidLoad => k_is)
    (case eb_InvalidLoad => k_is)
    (case ec_InvalidLoad => k_is)
    (case ed_InvalidLoad => k_is)
    (case ee_InvalidLoad => k_is)
    (case x_InvalidNumber => k_exc)
    (case k_InvalidNumber => k_is)
    (case rb_InvalidNumber => k_is)
    (case rt_InvalidNumber => k_is)
    (case ea_InvalidNumber => k_is)
    (case eb_InvalidNumber => k_is)
    (case ec_InvalidNumber => k_is)
    (case ed_InvalidNumber => k_is)
    (case ee_InvalidNumber => k_is)
    (case x_InvalidOperation => k_exc)
    (case k_InvalidOperation => k_is)
    (case rb_InvalidOperation => k_is)
    (case rt_InvalidOperation => k_is)
    (case ea_InvalidOperation => k_is)
    (case eb_InvalidOperation => k_is)
    (case ec_InvalidOperation => k_is)
    (case ed_InvalidOperation => k_is)
    (case ee_InvalidOperation => k_is)
    (case x_InvalidSize => k_exc)
    (case k_InvalidSize => k_is)
    (case rb_InvalidSize => k_is)
    (case rt_InvalidSize => k_is)
    (case ea_InvalidSize => k_is)
    (case eb_InvalidSize => k_is)
    (case ec_InvalidSize => k_is)
    (case ed_InvalidSize => k_is)
    (case ee_InvalidSize => k_is)
    (case k_InvalidText => k_is)
    (case rb_InvalidText => k_is)
    (case rt_InvalidText => k_is)
    (case ea_InvalidText => k_is)
    (case eb_InvalidText => k_is)
    (case ec_InvalidText => k_is)
    (case ed_InvalidText => k_is)
    (case ee_InvalidText => k_is)
    (case x_InvalidWord => k_exc)
    (case k_InvalidWord => k_is)
    (case rb_InvalidWord => k_is)
    (case rt_InvalidWord => k_is)
    (case ea_InvalidWord => k_is)
    (case eb_InvalidWord => k_is)
    (case ec_InvalidWord => k_is)
    (case ed_InvalidWord => k_is)
    (case ee_InvalidWord => k_is)
    (case x_LaceError => k_exc)
    (case k_LaceError => k_is)
    (case rb_LaceError => k_is)
    (case rt_LaceError => k_is)
    (case ea_LaceError => k_is)
    (case eb_LaceError => k_is)
    (case ec_LaceError => k_is)
    (case ed_LaceError => k_is)
    (case ee_LaceError => k_is)
    (case x_Nothing => k_exc)
    (case k_Nothing => k_is)
    (case rb_Nothing => k_is)
    (case rt_Nothing => k_is)
    (case ea_Nothing => k_is)
    (case eb_Nothing => k_is)
    (case ec_Nothing => k_is)
    (case ed_Nothing => k_is)
    (case ee_Nothing => k_is)
    (case k_OverBudget => k_is)
    (case rb_OverBudget => k_is)
    (case rt_OverBudget => k_is)
    (case ea_OverBudget => k_is)
    (case eb_OverBudget => k_is)
    (case ec_OverBudget => k_is)
    (case ed_OverBudget => k_is)
    (case ee_OverBudget => k_is)
    (case k_TooMany => k_is)
    (case rb_TooMany => k_is)
    (case rt_TooMany => k_is)
    (case ea_TooMany => k_is)
    (case eb_TooMany => k_is)
    (case ec_TooMany => k_is)
    (case ed_TooMany => k_is)
    (case ee_TooMany => k_is)
    (case x_UnlikeGrids => k_exc)
    (case k_UnlikeGrids => k_is)
    (case rb_UnlikeGrids => k_is)
    (case rt_UnlikeGrids => k_is)
    (case ea_UnlikeGrids => k_is)
    (case eb_UnlikeGrids => k_is)
    (case ec_UnlikeGrids => k_is)
    (case ed_UnlikeGrids => k_is)
    (case ee_UnlikeGrids => k_is)
    (case e_get => k_is)
    (case e_tak => k_is)
    (case qm_InvalidBox_InvalidBits => k_is)
    (case qm_InvalidBoxes_InvalidBits => k_is)
    (case qm_InvalidBudget_InvalidBits => k_is)
    (case qm_InvalidCell_InvalidBits => k_is)
    (case qm_InvalidCommand_InvalidBits => k_is)
    (case qm_InvalidIndex_InvalidBits => k_is)
    (case qm_InvalidKey_InvalidBits => k_is)
    (case qm_InvalidLayout_InvalidBits => k_is)
    (case qm_InvalidLoad_InvalidBits => k_is)
    (case qm_InvalidNumber_InvalidBits => k_is)
    (case qm_InvalidOperation_InvalidBits => k_is)
    (case qm_InvalidSize_InvalidBits => k_is)
    (case qm_InvalidText_InvalidBits => k_is)
    (case qm_InvalidWord_InvalidBits => k_is)
    (case qm_LaceError_InvalidBits => k_is)
    (case qm_Nothing_InvalidBits => k_is)
    (case qm_OverBudget_InvalidBits => k_is)
    (case qm_TooMany_InvalidBits => k_is)
    (case qm_UnlikeGrids_InvalidBits => k_is)
    (case ks_InvalidBits => k_is)
    (case ky_InvalidBits => k_is)
    (case qm_InvalidBits_InvalidBox => k_is)
    (case qm_InvalidBoxes_InvalidBox => k_is)
    (case qm_InvalidBudget_InvalidBox => k_is)
    (case qm_InvalidCell_InvalidBox => k_is)
    (case qm_InvalidCommand_InvalidBox => k_is)
    (case qm_InvalidIndex_InvalidBox => k_is)
    (case qm_InvalidKey_InvalidBox => k_is)
    (case qm_InvalidLayout_InvalidBox => k_is)
    (case qm_InvalidLoad_InvalidBox => k_is)
    (case qm_InvalidNumber_InvalidBox => k_is)
    (case qm_InvalidOperation_InvalidBox => k_is)
    (case qm_InvalidSize_InvalidBox => k_is)
    (case qm_InvalidText_InvalidBox => k_is)
    (case qm_InvalidWord_InvalidBox => k_is)
    (case qm_LaceError_InvalidBox => k_is)
    (case qm_Nothing_InvalidBox => k_is)
    (case qm_OverBudget_InvalidBox => k_is)
    (case qm_TooMany_InvalidBox => k_is)
    (case qm_UnlikeGrids_InvalidBox => k_is)
    (case ks_InvalidBox => k_is)
    (case ky_InvalidBox => k_is)
    (case qm_InvalidBits_InvalidBoxes => k_is)
    (case qm_InvalidBox_InvalidBoxes => k_is)
    (case qm_InvalidBudget_InvalidBoxes => k_is)
    (case qm_InvalidCell_InvalidBoxes => k_is)
    (case qm_InvalidCommand_InvalidBoxes => k_is)
    (case qm_InvalidIndex_InvalidBoxes => k_is)
    (case qm_InvalidKey_InvalidBoxes => k_is)
    (case qm_InvalidLayout_InvalidBoxes => k_is)
    (case qm_InvalidLoad_InvalidBoxes => k_is)
    (case qm_InvalidNumber_InvalidBoxes => k_is)
    (case qm_InvalidOperation_InvalidBoxes => k_is)
    (case qm_InvalidSize_InvalidBoxes => k_is)
    (case qm_InvalidText_InvalidBoxes => k_is)
    (case qm_InvalidWord_InvalidBoxes => k_is)
    (case qm_LaceError_InvalidBoxes => k_is)
    (case qm_Nothing_InvalidBoxes => k_is)
    (case qm_OverBudget_InvalidBoxes => k_is)
    (case qm_TooMany_InvalidBoxes => k_is)
    (case qm_UnlikeGrids_InvalidBoxes => k_is)
    (case ks_InvalidBoxes => k_is)
    (case ky_InvalidBoxes => k_is)
    (case qm_InvalidBits_InvalidBudget => k_is)
    (case qm_InvalidBox_InvalidBudget => k_is)
    (case qm_InvalidBoxes_InvalidBudget => k_is)
    (case qm_InvalidCell_InvalidBudget => k_is)
    (case qm_InvalidCommand_InvalidBudget => k_is)
    (case qm_InvalidIndex_InvalidBudget => k_is)
    (case qm_InvalidKey_InvalidBudget => k_is)
    (case qm_InvalidLayout_InvalidBudget => k_is)
    (case qm_InvalidLoad_InvalidBudget => k_is)
    (case qm_InvalidNumber_InvalidBudget => k_is)
    (case qm_InvalidOperation_InvalidBudget => k_is)
    (case qm_InvalidSize_InvalidBudget => k_is)
    (case qm_InvalidText_InvalidBudget => k_is)
    (case qm_InvalidWord_InvalidBudget => k_is)
    (case qm_LaceError_InvalidBudget => k_is)
    (case qm_Nothing_InvalidBudget => k_is)
    (case qm_OverBudget_InvalidBudget => k_is)
    (case qm_TooMany_InvalidBudget => k_is)
    (case qm_UnlikeGrids_InvalidBudget => k_is)
    (case ks_InvalidBudget => k_is)
    (case ky_InvalidBudget => k_is)
    (case qm_InvalidBits_InvalidCell => k_is)
    (case qm_InvalidBox_InvalidCell => k_is)
    (case qm_InvalidBoxes_InvalidCell => k_is)
    (case qm_InvalidBudget_InvalidCell => k_is)
    (case qm_InvalidCommand_InvalidCell => k_is)
    (case qm_InvalidIndex_InvalidCell => k_is)
    (case qm_InvalidKey_InvalidCell => k_is)
    (case qm_InvalidLayout_InvalidCell => k_is)
    (case qm_InvalidLoad_InvalidCell => k_is)
    (case qm_InvalidNumber_InvalidCell => k_is)
    (case qm_InvalidOperation_InvalidCell => k_is)
    (case qm_InvalidSize_InvalidCell => k_is)
    (case qm_InvalidText_InvalidCell => k_is)
    (case qm_InvalidWord_InvalidCell => k_is)
    (case qm_LaceError_InvalidCell => k_is)
    (case qm_Nothing_InvalidCell => k_is)
    (case qm_OverBudget_InvalidCell => k_is)
    (case qm_TooMany_InvalidCell => k_is)
    (case qm_UnlikeGrids_InvalidCell => k_is)
    (case ks_InvalidCell => k_is)
    (case ky_InvalidCell => k_is)
    (case qm_InvalidBits_InvalidCommand => k_is)
    (case qm_InvalidBox_InvalidCommand => k_is)
    (case qm_InvalidBoxes_InvalidCommand => k_is)
    (case qm_InvalidBudget_InvalidCommand => k_is)
    (case qm_InvalidCell_InvalidCommand => k_is)
    (case qm_InvalidIndex_InvalidCommand => k_is)
    (case qm_InvalidKey_InvalidCommand => k_is)
    (case qm_InvalidLayout_InvalidCommand => k_is)
    (case qm_InvalidLoad_InvalidCommand => k_is)
    (case qm_InvalidNumber_InvalidCommand => k_is)
    (case qm_InvalidOperation_InvalidCommand => k_is)
    (case qm_InvalidSize_InvalidCommand => k_is)
    (case qm_InvalidText_InvalidCommand => k_is)
    (case qm_InvalidWord_InvalidCommand => k_is)
    (case qm_LaceError_InvalidCommand => k_is)
    (case qm_Nothing_InvalidCommand => k_is)
    (case qm_OverBudget_InvalidCommand => k_is)
    (case qm_TooMany_InvalidCommand => k_is)
    (case qm_UnlikeGrids_InvalidCommand => k_is)
    (case ks_InvalidCommand => k_is)
    (case ky_InvalidCommand => k_is)
    (case qm_InvalidBits_InvalidIndex => k_is)
    (case qm_InvalidBox_InvalidIndex => k_is)
    (case qm_InvalidBoxes_InvalidIndex => k_is)
    (case qm_InvalidBudget_InvalidIndex => k_is)
    (case qm_InvalidCell_InvalidIndex => k_is)
    (case qm_InvalidCommand_InvalidIndex => k_is)
    (case qm_InvalidKey_InvalidIndex => k_is)
    (case qm_InvalidLayout_InvalidIndex => k_is)
    (case qm_InvalidLoad_InvalidIndex => k_is)
    (case qm_InvalidNumber_InvalidIndex => k_is)
    (case qm_InvalidOperation_InvalidIndex => k_is)
    (case qm_InvalidSize_InvalidIndex => k_is)
    (case qm_InvalidText_InvalidIndex => k_is)
    (case qm_InvalidWord_InvalidIndex => k_is)
    (case qm_LaceError_InvalidIndex => k_is)
    (case qm_Nothing_InvalidIndex => k_is)
    (case qm_OverBudget_InvalidIndex => k_is)
    (case qm_TooMany_InvalidIndex => k_is)
    (case qm_UnlikeGrids_InvalidIndex => k_is)
    (case ks_InvalidIndex => k_is)
    (case ky_InvalidIndex => k_is)
    (case qm_InvalidBits_InvalidKey => k_is)
    (case qm_InvalidBox_InvalidKey => k_is)
    (case qm_InvalidBoxes_InvalidKey => k_is)
    (case qm_InvalidBudget_InvalidKey => k_is)
    (case qm_InvalidCell_InvalidKey => k_is)
    (case qm_InvalidCommand_InvalidKey => k_is)
    (case qm_InvalidIndex_InvalidKey => k_is)
    (case qm_InvalidLayout_InvalidKey => k_is)
    (case qm_InvalidLoad_InvalidKey => k_is)
    (case qm_InvalidNumber_InvalidKey => k_is)
    (case qm_InvalidOperation_InvalidKey => k_is)
    (case qm_InvalidSize_InvalidKey => k_is)
    (case qm_InvalidText_InvalidKey => k_is)
    (case qm_InvalidWord_InvalidKey => k_is)
    (case qm_LaceError_InvalidKey => k_is)
    (case qm_Nothing_InvalidKey => k_is)
    (case qm_OverBudget_InvalidKey => k_is)
    (case qm_TooMany_InvalidKey => k_is)
    (case qm_UnlikeGrids_InvalidKey => k_is)
    (case ks_InvalidKey => k_is)
    (case ky_InvalidKey => k_is)
    (case qm_InvalidBits_InvalidLayout => k_is)
    (case qm_InvalidBox_InvalidLayout => k_is)
    (case qm_InvalidBoxes_InvalidLayout => k_is)
    (case qm_InvalidBudget_InvalidLayout => k_is)
    (case qm_InvalidCell_InvalidLayout => k_is)
    (case qm_InvalidCommand_InvalidLayout => k_is)
    (case qm_InvalidIndex_InvalidLayout => k_is)
    (case qm_InvalidKey_InvalidLayout => k_is)
    (case qm_InvalidLoad_InvalidLayout => k_is)
    (case qm_InvalidNumber_InvalidLayout => k_is)
    (case qm_InvalidOperation_InvalidLayout => k_is)
    (case qm_InvalidSize_InvalidLayout => k_is)
    (case qm_InvalidText_InvalidLayout => k_is)
    (case qm_InvalidWord_InvalidLayout => k_is)
    (case qm_LaceError_InvalidLayout => k_is)
    (case qm_Nothing_InvalidLayout => k_is)
    (case qm_OverBudget_InvalidLayout => k_is)
    (case qm_TooMany_InvalidLayout => k_is)
    (case qm_UnlikeGrids_InvalidLayout => k_is)
    (case ks_InvalidLayout => k_is)
    (case ky_InvalidLayout => k_is)
    (case qm_InvalidBits_InvalidLoad => k_is)
    (case qm_InvalidBox_InvalidLoad => k_is)
    (case qm_InvalidBoxes_InvalidLoad => k_is)
    (case qm_InvalidBudget_InvalidLoad => k_is)
    (case qm_InvalidCell_InvalidLoad => k_is)
    (case qm_InvalidCommand_InvalidLoad => k_is)
    (case qm_InvalidIndex_InvalidLoad => k_is)
    (case qm_InvalidKey_InvalidLoad => k_is)
    (case qm_InvalidLayout_InvalidLoad => k_is)
    (case qm_InvalidNumber_InvalidLoad => k_is)
    (case qm_InvalidOperation_InvalidLoad => k_is)
    (case qm_InvalidSize_InvalidLoad => k_is)
    (case qm_InvalidText_InvalidLoad => k_is)
    (case qm_InvalidWord_InvalidLoad => k_is)
    (case qm_LaceError_InvalidLoad => k_is)
    (case qm_Nothing_InvalidLoad => k_is)
    (case qm_OverBudget_InvalidLoad => k_is)
    (case qm_TooMany_InvalidLoad => k_is)
    (case qm_UnlikeGrids_InvalidLoad => k_is)
    (case ks_InvalidLoad => k_is)
    (case ky_InvalidLoad => k_is)
    (case qm_InvalidBits_InvalidNumber => k_is)
    (case qm_InvalidBox_InvalidNumber => k_is)
    (case qm_InvalidBoxes_InvalidNumber => k_is)
    (case qm_InvalidBudget_InvalidNumber => k_is)
    (case qm_InvalidCell_InvalidNumber => k_is)
    (case qm_InvalidCommand_InvalidNumber => k_is)
    (case qm_InvalidIndex_InvalidNumber => k_is)
    (case qm_InvalidKey_InvalidNumber => k_is)
    (case qm_InvalidLayout_InvalidNumber => k_is)
    (case qm_InvalidLoad_InvalidNumber => k_is)
    (case qm_InvalidOperation_InvalidNumber => k_is)
    (case qm_InvalidSize_InvalidNumber => k_is)
    (case qm_InvalidText_InvalidNumber => k_is)
    (case qm_InvalidWord_InvalidNumber => k_is)
    (case qm_LaceError_InvalidNumber => k_is)
    (case qm_Nothing_InvalidNumber => k_is)
    (case qm_OverBudget_InvalidNumber => k_is)
    (case qm_TooMany_InvalidNumber => k_is)
    (case qm_UnlikeGrids_InvalidNumber => k_is)
    (case ks_InvalidNumber => k_is)
    (case ky_InvalidNumber => k_is)
    (case qm_InvalidBits_InvalidOperation => k_is)
    (case qm_InvalidBox_InvalidOperation => k_is)
    (case qm_InvalidBoxes_InvalidOperation => k_is)
    (case qm_InvalidBudget_InvalidOperation => k_is)
    (case qm_InvalidCell_InvalidOperation => k_is)
    (case qm_InvalidCommand_InvalidOperation => k_is)
    (case qm_InvalidIndex_InvalidOperation => k_is)
    (case qm_InvalidKey_InvalidOperation => k_is)
    (case qm_InvalidLayout_InvalidOperation => k_is)
    (case qm_InvalidLoad_InvalidOperation => k_is)
    (case qm_InvalidNumber_InvalidOperation => k_is)
    (case qm_InvalidSize_InvalidOperation => k_is)
    (case qm_InvalidText_InvalidOperation => k_is)
    (case qm_InvalidWord_InvalidOperation => k_is)
    (case qm_LaceError_InvalidOperation => k_is)
    (case qm_Nothing_InvalidOperation => k_is)
    (case qm_OverBudget_InvalidOperation => k_is)
    (case qm_TooMany_InvalidOperation => k_is)
    (case qm_UnlikeGrids_InvalidOperation => k_is)
    (case ks_InvalidOperation => k_is)
    (case ky_InvalidOperation => k_is)
    (case qm_InvalidBits_InvalidSize => k_is)
    (case qm_InvalidBox_InvalidSize => k_is)
    (case qm_InvalidBoxes_InvalidSize => k_is)
    (case qm_InvalidBudget_InvalidSize => k_is)
    (case qm_InvalidCell_InvalidSize => k_is)
    (case qm_InvalidCommand_InvalidSize => k_is)
    (case qm_InvalidIndex_InvalidSize => k_is)
    (case qm_InvalidKey_InvalidSize => k_is)
    (case qm_InvalidLayout_InvalidSize => k_is)
    (case qm_InvalidLoad_InvalidSize => k_is)
    (case qm_InvalidNumber_InvalidSize => k_is)
    (case qm_InvalidOperation_InvalidSize => k_is)
    (case qm_InvalidText_InvalidSize => k_is)
    (case qm_InvalidWord_InvalidSize => k_is)
    (case qm_LaceError_InvalidSize => k_is)
    (case qm_Nothing_InvalidSize => k_is)
    (case qm_OverBudget_InvalidSize => k_is)
    (case qm_TooMany_InvalidSize => k_is)
    (case qm_UnlikeGrids_InvalidSize => k_is)
    (case ks_InvalidSize => k_is)
    (case ky_InvalidSize => k_is)
    (case qm_InvalidBits_InvalidText => k_is)
    (case qm_InvalidBox_InvalidText => k_is)
    (case qm_InvalidBoxes_InvalidText => k_is)
    (case qm_InvalidBudget_InvalidText => k_is)
    (case qm_InvalidCell_InvalidText => k_is)
    (case qm_InvalidCommand_InvalidText => k_is)
    (case qm_InvalidIndex_InvalidText => k_is)
    (case qm_InvalidKey_InvalidText => k_is)
    (case qm_InvalidLayout_InvalidText => k_is)
    (case qm_InvalidLoad_InvalidText => k_is)
    (case qm_InvalidNumber_InvalidText => k_is)
    (case qm_InvalidOperation_InvalidText => k_is)
    (case qm_InvalidSize_InvalidText => k_is)
    (case qm_InvalidWord_InvalidText => k_is)
    (case qm_LaceError_InvalidText => k_is)
    (case qm_Nothing_InvalidText => k_is)
    (case qm_OverBudget_InvalidText => k_is)
    (case qm_TooMany_InvalidText => k_is)
    (case qm_UnlikeGrids_InvalidText => k_is)
    (case ks_InvalidText => k_is)
    (case ky_InvalidText => k_is)
    (case qm_InvalidBits_InvalidWord => k_is)
    (case qm_InvalidBox_InvalidWord => k_is)
    (case qm_InvalidBoxes_InvalidWord => k_is)
    (case qm_InvalidBudget_InvalidWord => k_is)
    (case qm_InvalidCell_InvalidWord => k_is)
    (case qm_InvalidCommand_InvalidWord => k_is)
    (case qm_InvalidIndex_InvalidWord => k_is)
    (case qm_InvalidKey_InvalidWord => k_is)
    (case qm_InvalidLayout_InvalidWord => k_is)
    (case qm_InvalidLoad_InvalidWord => k_is)
    (case qm_InvalidNumber_InvalidWord => k_is)
    (case qm_InvalidOperation_InvalidWord => k_is)
    (case qm_InvalidSize_InvalidWord => k_is)
    (case qm_InvalidText_InvalidWord => k_is)
    (case qm_LaceError_InvalidWord => k_is)
    (case qm_Nothing_InvalidWord => k_is)
    (case qm_OverBudget_InvalidWord => k_is)
    (case qm_TooMany_InvalidWord => k_is)
    (case qm_UnlikeGrids_InvalidWord => k_is)
    (case ks_InvalidWord => k_is)
    (case ky_InvalidWord => k_is)
    (case qm_InvalidBits_LaceError => k_is)
    (case qm_InvalidBox_LaceError => k_is)
    (case qm_InvalidBoxes_LaceError => k_is)
    (case qm_InvalidBudget_LaceError => k_is)
    (case qm_InvalidCell_LaceError => k_is)
    (case qm_InvalidCommand_LaceError => k_is)
    (case qm_InvalidIndex_LaceError => k_is)
    (case qm_InvalidKey_LaceError => k_is)
    (case qm_InvalidLayout_LaceError => k_is)
    (case qm_InvalidLoad_LaceError => k_is)
    (case qm_InvalidNumber_LaceError => k_is)
    (case qm_InvalidOperation_LaceError => k_is)
    (case qm_InvalidSize_LaceError => k_is)
    (case qm_InvalidText_LaceError => k_is)
    (case qm_InvalidWord_LaceError => k_is)
    (case qm_Nothing_LaceError => k_is)
    (case qm_OverBudget_LaceError => k_is)
    (case qm_TooMany_LaceError => k_is)
    (case qm_UnlikeGrids_LaceError => k_is)
    (case ks_LaceError => k_is)
    (case ky_LaceError => k_is)
    (case qm_InvalidBits_Nothing => k_is)
    (case qm_InvalidBox_Nothing => k_is)
    (case qm_InvalidBoxes_Nothing => k_is)
    (case qm_InvalidBudget_Nothing => k_is)
    (case qm_InvalidCell_Nothing => k_is)
    (case qm_InvalidCommand_Nothing => k_is)
    (case qm_InvalidIndex_Nothing => k_is)
    (case qm_InvalidKey_Nothing => k_is)
    (case qm_InvalidLayout_Nothing => k_is)
    (case qm_InvalidLoad_Nothing => k_is)
    (case qm_InvalidNumber_Nothing => k_is)
    (case qm_InvalidOperation_Nothing => k_is)
    (case qm_InvalidSize_Nothing => k_is)
    (case qm_InvalidText_Nothing => k_is)
    (case qm_InvalidWord_Nothing => k_is)
    (case qm_LaceError_Nothing => k_is)
    (case qm_OverBudget_Nothing => k_is)
    (case qm_TooMany_Nothing => k_is)
    (case qm_UnlikeGrids_Nothing => k_is)
    (case ks_Nothing => k_is)
    (case ky_Nothing => k_is)
    (case qm_InvalidBits_OverBudget => k_is)
    (case qm_InvalidBox_OverBudget => k_is)
    (case qm_InvalidBoxes_OverBudget => k_is)
    (case qm_InvalidBudget_OverBudget => k_is)
    (case qm_InvalidCell_OverBudget => k_is)
    (case qm_InvalidCommand_OverBudget => k_is)
    (case qm_InvalidIndex_OverBudget => k_is)
    (case qm_InvalidKey_OverBudget => k_is)
    (case qm_InvalidLayout_OverBudget => k_is)
    (case qm_InvalidLoad_OverBudget => k_is)
    (case qm_InvalidNumber_OverBudget => k_is)
    (case qm_InvalidOperation_OverBudget => k_is)
    (case qm_InvalidSize_OverBudget => k_is)
    (case qm_InvalidText_OverBudget => k_is)
    (case qm_InvalidWord_OverBudget => k_is)
    (case qm_LaceError_OverBudget => k_is)
    (case qm_Nothing_OverBudget => k_is)
    (case qm_TooMany_OverBudget => k_is)
    (case qm_UnlikeGrids_OverBudget => k_is)
    (case ks_OverBudget => k_is)
    (case ky_OverBudget => k_is)
    (case qm_InvalidBits_TooMany => k_is)
    (case qm_InvalidBox_TooMany => k_is)
    (case qm_InvalidBoxes_TooMany => k_is)
    (case qm_InvalidBudget_TooMany => k_is)
    (case qm_InvalidCell_TooMany => k_is)
    (case qm_InvalidCommand_TooMany => k_is)
    (case qm_InvalidIndex_TooMany => k_is)
    (case qm_InvalidKey_TooMany => k_is)
    (case qm_InvalidLayout_TooMany => k_is)
    (case qm_InvalidLoad_TooMany => k_is)
    (case qm_InvalidNumber_TooMany => k_is)
    (case qm_InvalidOperation_TooMany => k_is)
    (case qm_InvalidSize_TooMany => k_is)
    (case qm_InvalidText_TooMany => k_is)
    (case qm_InvalidWord_TooMany => k_is)
    (case qm_LaceError_TooMany => k_is)
    (case qm_Nothing_TooMany => k_is)
    (case qm_OverBudget_TooMany => k_is)
    (case qm_UnlikeGrids_TooMany => k_is)
    (case ks_TooMany => k_is)
    (case ky_TooMany => k_is)
    (case qm_InvalidBits_UnlikeGrids => k_is)
    (case qm_InvalidBox_UnlikeGrids => k_is)
    (case qm_InvalidBoxes_UnlikeGrids => k_is)
    (case qm_InvalidBudget_UnlikeGrids => k_is)
    (case qm_InvalidCell_UnlikeGrids => k_is)
    (case qm_InvalidCommand_UnlikeGrids => k_is)
    (case qm_InvalidIndex_UnlikeGrids => k_is)
    (case qm_InvalidKey_UnlikeGrids => k_is)
    (case qm_InvalidLayout_UnlikeGrids => k_is)
    (case qm_InvalidLoad_UnlikeGrids => k_is)
    (case qm_InvalidNumber_UnlikeGrids => k_is)
    (case qm_InvalidOperation_UnlikeGrids => k_is)
    (case qm_InvalidSize_UnlikeGrids => k_is)
    (case qm_InvalidText_UnlikeGrids => k_is)
    (case qm_InvalidWord_UnlikeGrids => k_is)
    (case qm_LaceError_UnlikeGrids => k_is)
    (case qm_Nothing_UnlikeGrids => k_is)
    (case qm_OverBudget_UnlikeGrids => k_is)
    (case qm_TooMany_UnlikeGrids => k_is)
    (case ks_UnlikeGrids => k_is)
    (case ky_UnlikeGrids => k_is)
    (case qm_InvalidBits_ValueError => k_is)
    (case qm_InvalidBox_ValueError => k_is)
    (case qm_InvalidBoxes_ValueError => k_is)
    (case qm_InvalidBudget_ValueError => k_is)
    (case qm_InvalidCell_ValueError => k_is)
    (case qm_InvalidCommand_ValueError => k_is)
    (case qm_InvalidIndex_ValueError => k_is)
    (case qm_InvalidKey_ValueError => k_is)
    (case qm_InvalidLayout_ValueError => k_is)
    (case qm_InvalidLoad_ValueError => k_is)
    (case qm_InvalidNumber_ValueError => k_is)
    (case qm_InvalidOperation_ValueError => k_is)
    (case qm_InvalidSize_ValueError => k_is)
    (case qm_InvalidText_ValueError => k_is)
    (case qm_InvalidWord_ValueError => k_is)
    (case qm_LaceError_ValueError => k_is)
    (case qm_Nothing_ValueError => k_is)
    (case qm_OverBudget_ValueError => k_is)
    (case qm_TooMany_ValueError => k_is)
    (case qm_UnlikeGrids_ValueError => k_is)
    (case z_ValueError => k_is)
    (case z_enumerate => k_is)
    (case z_int => k_is)
    (case z_isinstance => k_is)
    (case z_len => k_is)
    (case z_max => k_is)
    (case z_range => k_is)
    (case oiC_InvalidBoxes => k_is)
    (case otI_InvalidBoxes => k_is)
    (case ol_InvalidBoxes => k_is)
    (case oh_InvalidBoxes => k_is)
    (case oC_InvalidBoxes => k_is)
    (case orf_InvalidBoxes => first | rfl | decide +kernel)
    (case osa_InvalidBoxes => k_is)
    (case ocd_InvalidBoxes => k_is)
    (case orv_InvalidBoxes => first | rfl | decide +kernel)
    (case orl_InvalidBoxes => first | rfl | decide +kernel)
    (case occ_InvalidBoxes => k_is)
    (case oks_InvalidBoxes => ks_is)
    (case osu_InvalidBoxes => k_is)
    (case ove_InvalidBoxes => k_is)
    (case oan_InvalidBoxes => k_is)
    (case orn_InvalidBoxes => first | rfl | decide +kernel)
    (case ono_InvalidBoxes => k_is)
    (case oxa_InvalidBoxes => k_is)
    (case oxb_InvalidBoxes => k_is)
    (case oxd_InvalidBoxes => k_is)
    (case oiC_InvalidLoad => k_is)
    (case otI_InvalidLoad => k_is)
    (case ol_InvalidLoad => k_is)
    (case oh_InvalidLoad => k_is)
    (case oC_InvalidLoad => k_is)
    (case orf_InvalidLoad => first | rfl | decide +kernel)
    (case osa_InvalidLoad => k_is)
    (case ocd_InvalidLoad => k_is)
    (case orv_InvalidLoad => first | rfl | decide +kernel)
    (case orl_InvalidLoad => first | rfl | decide +kernel)
    (case occ_InvalidLoad => k_is)
    (case oks_InvalidLoad => ks_is)
    (case osu_InvalidLoad => k_is)
    (case ove_InvalidLoad => k_is)
    (case oan_InvalidLoad => k_is)
    (case orn_InvalidLoad => first | rfl | decide +kernel)
    (case ono_InvalidLoad => k_is)
    (case oxa_InvalidLoad => k_is)
    (case oxb_InvalidLoad => k_is)
    (case oxd_InvalidLoad => k_is)
    (case oiC_InvalidText => k_is)
    (case otI_InvalidText => k_is)
    (case ol_InvalidText => k_is)
    (case oh_InvalidText => k_is)
    (case oC_InvalidText => k_is)
    (case orf_InvalidText => first | rfl | decide +kernel)
    (case osa_InvalidText => k_is)
    (case ocd_InvalidText => k_is)
    (case orv_InvalidText => first | rfl | decide +kernel)
    (case orl_InvalidText => first | rfl | decide +kernel)
    (case occ_InvalidText => k_is)
    (case oks_InvalidText => ks_is)
    (case osu_InvalidText => k_is)
    (case ove_InvalidText => k_is)
    (case oan_InvalidText => k_is)
    (case orn_InvalidText => first | rfl | decide +kernel)
    (case ono_InvalidText => k_is)
    (case oxa_InvalidText => k_is)
    (case oxb_InvalidText => k_is)
    (case oxd_InvalidText => k_is)
    (case oiC_OverBudget => k_is)
    (case otI_OverBudget => k_is)
    (case ol_OverBudget => k_is)
    (case oh_OverBudget => k_is)
    (case oC_OverBudget => k_is)
    (case orf_OverBudget => first | rfl | decide +kernel)
    (case osa_OverBudget => k_is)
    (case ocd_OverBudget => k_is)
    (case orv_OverBudget => first | rfl | decide +kernel)
    (case orl_OverBudget => first | rfl | decide +kernel)
    (case occ_OverBudget => k_is)
    (case oks_OverBudget => ks_is)
    (case osu_OverBudget => k_is)
    (case ove_OverBudget => k_is)
    (case oan_OverBudget => k_is)
    (case orn_OverBudget => first | rfl | decide +kernel)
    (case ono_OverBudget => k_is)
    (case oxa_OverBudget => k_is)
    (case oxb_OverBudget => k_is)
    (case oxd_OverBudget => k_is)
    (case oiC_TooMany => k_is)
    (case otI_TooMany => k_is)
    (case ol_TooMany => k_is)
    (case oh_TooMany => k_is)
    (case oC_TooMany => k_is)
    (case orf_TooMany => first | rfl | decide +kernel)
    (case osa_TooMany => k_is)
    (case ocd_TooMany => k_is)
    (case orv_TooMany => first | rfl | decide +kernel)
    (case orl_TooMany => first | rfl | decide +kernel)
    (case occ_TooMany => k_is)
    (case oks_TooMany => ks_is)
    (case osu_TooMany => k_is)
    (case ove_TooMany => k_is)
    (case oan_TooMany => k_is)
    (case orn_TooMany => first | rfl | decide +kernel)
    (case ono_TooMany => k_is)
    (case oxa_TooMany => k_is)
    (case oxb_TooMany => k_is)
    (case oxd_TooMany => k_is)
    (case z_super => k_is)

