import PyProof.Rows.All
import Wide.All
import OpenK.AllK
import Wide.FinOn
import HandS.ForMost
import HandS.Wide
import HandS.WideBits
import HandS.Property
import HandS.OwnEq
import HandS.IsInst
import HandS.Style
import HandS.Codes
import HandS.SortInts
import PyProof.ReprRoads
import HandS.WordsExc
import HandS.Walk
import PyProof.Rows.RegReprOcc
import PyProof.ReprLen
import HandS.TupAny
import HandS.Gcd
import HandS.ExcOwn
import PyProof.Rows.StrRev
import KE.KRevSl
import KE.GoesMore
import HandS.RaiseMore
import HandS.Conv
import HandS.ExcIs
import KE.KMathGC
import HandS.StrMore
import HandS.SortRule
import KE.OsScanText
import PySem.Challenge.RW_lacekeys_k27_cells_in_order_by_all_words
set_option Elab.async false
set_option linter.all false
set_option maxRecDepth 100000
set_option maxHeartbeats 4000000
namespace Lk
open PySem PySem.Spec PyProof.Rows L2
/-! ### rules of our own -/
section
variable {X : Cx}
/-- a power of a great base -/
def CPowB (i j : Int) : Prop := ∃ b : Nat, i.natAbs < 2 ^ b ∧ 0 ≤ j ∧ (b : Int) * j ≤ 100000
theorem op_powB : OpR X (binaryOp .Pow) (rI CPowB fun i j => .int (i ^ j.toNat)) :=
  opI fun i j _ _ _ _ _ hc q => by
    obtain ⟨b, h1, h2, h3⟩ := hc
    refine pow_int h2 ?_ q
    have h4 := intBits_le h1
    have h5 : ((Builtin.Int.intBits i : Nat) : Int) * j ≤ (b : Int) * j := Int.mul_le_mul_of_nonneg_right (by omega) h2
    omega
/-- a text times a number -/
def rMulS : R2 := fun x y H Q => ∃ (a : Str) (n : Int), x = .str a ∧ y = .int n ∧ a.length ≤ 1000 ∧ -1000 ≤ n ∧ n ≤ 1000 ∧ Q (.str (Txt.mul a n)) H
theorem op_mulS : OpR X (binaryOp .Mult) rMulS := by
  intro pins s σ H x y v u Q I rx ry h
  obtain ⟨a, n, rfl, rfl, h1, h2, h3, q⟩ := h
  obtain ⟨t, rfl⟩ := rx
  obtain ⟨t', rfl⟩ := ry
  exact SB.mul (mulOk_of 1000 1000 h1 h3 (by omega) (by decide) (by decide)) fun t1 k => ⟨.str (Txt.mul a n), H, I.tok k, ⟨t1, rfl⟩, q⟩
/-- repr of data -/
def rRepr (K : PySem.W.Frag) : List V → Hp → VK → Prop := fun xs H Q => ∃ (a : Addr) (d : PyData), xs = [.ref a] ∧ Dp K H (.ref a) d ∧ d.showable = true ∧ d.hasDict = false ∧ d.depth ≤ 8 ∧ d.shown.length ≤ sizeLine ∧ Q (.str d.shown) H
theorem call_reprD (hg : X.A.guards = some []) (hu : X.A.units + 64 < cLine) : CallR X (.builtin "repr") (rRepr X.K) := by
  intro pins s σ H xs us Q I r h
  obtain ⟨a, d, rfl, hd, h1, h2, h3, h4, q⟩ := h
  obtain ⟨u, rfl, ru⟩ : ∃ u, us = [u] ∧ RelV (.ref a) u := by
    cases r with
    | cons r1 r2 =>
      cases r2
      exact ⟨_, rfl, r1⟩
  obtain ⟨as, hr⟩ := Dp.reads I d _ u hd ru
  obtain rfl : u = Value.ref a := ru
  refine repr_of_reads' hr h1 (fun z => by rw [h2] at z; cases z) hg (by omega) (fun b o e => e) (fun h' t tk kept => ?_) h4
  exact ⟨.str d.shown, H, I.kept kept, ⟨t, rfl⟩, q⟩
end

theorem kitOne_self (K : PySem.W.Frag) (v : Value) : PySem.W.kitOne K v v = some true := by
  unfold PySem.W.kitOne
  rw [if_pos (beq_self_eq_true v)]

/-! ### defs that are called where no repr is under way -/
structure FnG (P : Program) (w : World) (K : PySem.W.Frag) (mg : Str → Option Value) (base : Heap) (k : Nat) (f : Addr) (fd : FuncData) (ps : List Str) (sp : Sp) : Prop where
  wide : ∀ vs H Q E, sp vs H Q E → vs.length = ps.length
  goes : ∀ (A : Around) (outer : List Env) (s : Shared) (H : Hp) (args : Args) (us : List Value) (vs : List V) (Q : VK) (E : XK), A.guards = some [] → Room k A →
    Env0 P w K mg base A outer s H → BindsTo s fd args (ps.zip us) → Vals vs us → sp vs H Q E → codeAny (model P w) A (.call (.ref f) args) (CR CX0 outer P w H s Q E) s
section
variable {P : Program} {w : World} {K : PySem.W.Frag} {mg : Str → Option Value} {base : Heap} {k : Nat} {f : Addr} {fd : FuncData} {ps : List Str} {sp : Sp}
theorem FnG.mono {j : Nat} (F : FnG P w K mg base j f fd ps sp) (h : j ≤ k) : FnG P w K mg base k f fd ps sp :=
  ⟨F.wide, fun A outer s H args us vs Q E hg hr => F.goes A outer s H args us vs Q E hg (hr.mono h)⟩
theorem okG {x qual : Str} {st : Stmt} {N : List Str} (F : Fun K x qual st f fd) (S : FnScope N ps (defScope st)) (len : ∀ vs H Q E, sp vs H Q E → vs.length = ps.length)
    (hbody : ∀ (cdv : Value) (A : Around) (outer : List Env) (s : Shared) (H : Hp) (vs : List V) (Q : VK) (E : XK), A.guards = some [] → Room k (A.deeper (envOfC qual (defScope st) s.heap.objs.size f cdv)) → sp vs H Q E →
      ∃ t, PSs (cxOf CX0 P w K mg base N qual (defScope st) f cdv A outer s H E).nox (defBody st) t ∧ t { nx := fun _ H' => Q .non H', rt := Q } (start N vs) H) : FnG P w K mg base (k + 1) f fd ps sp := by
  obtain ⟨oc, od, kV, doc, pm, an, cdv, ct, osl, rfl, lk, hcd⟩ := F.ex
  refine ⟨len, fun A outer s H args us vs Q E hg hr e0 hb r hsp => ?_⟩
  have KX : K.In s.heap := e0.mod.kin.keeps fun b o e => (e0.bs b o e).1
  have kinds : ∀ y ∈ ps.zip us, (defScope st).names.lookup y.1 = some .local ∨ ((defScope st).names.lookup y.1 = some .cell ∧ ((cellsFrom (s.heap.objs.size + 1) (defScope st).names []).lookup y.1).isSome = true) := by
    rintro ⟨n, v⟩ hy
    rcases S.par n (List.of_mem_zip hy).1 with z | z
    · exact .inl z
    · exact .inr ⟨z, PySem.W.cellsFrom_some _ _ _ (.inl z)⟩
  refine codeAny_call_function hr.depth (KX _ _ lk) rfl S.co S.gen rfl (PySem.W.codeRec_of KX hcd) (hb _ _ _ _ ?_)
  refine wpAny_newFunctionEnv_cells S.kind kinds fun env he s1 x => ?_
  subst he
  refine ⟨(e0.mod.nolimit.keeps fun b o e => (e0.bs b o e).1).keeps x.toInCall.keep, codeAny_func ?_⟩
  obtain ⟨t, ht, hq⟩ := hbody cdv A outer s H vs Q E hg (hr.deeper _) hsp
  have I := inv_start (CX := CX0) (E := E) S hr.hd e0 (len _ _ _ _ hsp) r x
  refine wpAny_mono (ht.nox.run [] s1 _ H _ I hq) (fun fl s' hs => ?_) fun e s' hs => hs
  cases fl with
  | ret u =>
    obtain ⟨v, σ', H', J, rv, q⟩ := hs
    exact ⟨v, H', J.os, J.bare, J.base, J.hok, rv, q⟩
  | next =>
    obtain ⟨σ', H', J, q⟩ := hs
    exact ⟨V.non, H', J.os, J.bare, J.base, J.hok, rfl, q⟩
  | brk => exact hs.elim fun _ z => z.elim fun _ z => z.2.elim
  | cont => exact hs.elim fun _ z => z.elim fun _ z => z.2.elim
end
section
variable {X : Cx} {k : Nat} {f : Addr} {fd : FuncData} {ps : List Str} {sp : Sp} {x : Str} {p pos : Pos} {e : Expr} {es : List Expr} {t : TA}
theorem pe_callG (F : FnG X.prog X.w X.K X.mg X.base k f fd ps sp) (hgd : X.A.guards = some []) (hr : Room k X.A) (hg : Gl X x) (hm : X.mg x = some (.ref f)) (hk : PySem.W.keepIn X.K (.ref f) = true) (hb : Binds X.K fd ps [])
    (ha : PA X (e :: es) t) (hdb : (x == ("__debug__" : Str)) = false := by decide) (he : starEach (e :: es) X.env = (false, eval e X.env) :: starEach es X.env := by rfl)
    (hpl : (backTo pos (starEach es X.env)).any (·.1) = false := by rfl) : PE X (.Call (.Name x p) (e :: es) [] pos) (tCall sp [] E0 t) := by
  refine ⟨fun pins s σ H Q I h => wpAny_Call_Name_kw (ld_glob I hg hm ?_ hdb)⟩
  refine PySem.W.callWith_K (h₀ := X.base) I.ok.mod.kin hk (thn (ha.run pos pins s σ H _ I h) fun us s1 hus => ?_) he hpl
  obtain ⟨vs, H1, I1, r, q⟩ := hus
  refine ⟨I1.kIn, wpAny_call (codeAny_mono (F.goes X.A X.stack s1 H1 ⟨us, []⟩ us vs Q E0 hgd hr I1.env0 ?_ r ?_) fun r s' hq => ?_)⟩
  · have l : us.length = ps.length := by
      rw [← r.length]
      have := F.wide _ _ _ _ q
      rw [List.append_nil] at this
      exact this
    have z := hb s1 us I1.kIn (by rw [List.append_nil]; exact l)
    rw [List.append_nil] at z
    exact z
  · have z := q
    rw [List.append_nil] at z
    exact z
  · cases r with
    | error e => exact hq.elim
    | ok fl =>
      cases fl with
      | ret u => exact I1.after hq
      | next => exact False.elim hq
      | brk => exact False.elim hq
      | cont => exact False.elim hq
end

/-! ### the law's own end -/
theorem callG {P : Program} {w : World} {K : PySem.W.Frag} {mg mb : Str → Option Value} {k : Nat} {fa a : Addr} {fd : FuncData} {x : Str} {sp : Sp} {s₁ : Shared} {vs : List Value} {ns : List Int}
    (KX : K.In s₁.heap) (hns : s₁.heap.Ns mainGlobals mg) (hb : s₁.heap.Ns builtinsNs mb) (hbb : ∀ x : Str, x ≠ "__name__" → mb x = bootBuiltins x) (hlim : s₁.heap.NoLimit) (hg : s₁.gens = #[])
    (ha : s₁.heap.get? a = some { cls := .type "list", data := .seq vs.toArray }) (hi : IntsAre vs ns) (hl : ns.length ≤ sizeLine) (hr : Room k callerA)
    (F : ∀ base : Heap, K.In base → base.Ns mainGlobals mg → FnG P w K mg base k fa fd [x] sp) (hbind : ∀ (s : Shared) (u : Value), BindsTo s fd ⟨[u], []⟩ [(x, u)])
    (hsp : ∀ H : Hp, Only H → SqL K H a (ns.map V.int) → sp [.ref a] H (fun v _ => v = .bl true) fun _ _ _ => False) :
    codeAny (model P w) callerA (.call (.ref fa) ⟨[.ref a], []⟩) (fun r s' => r = .ok (.ret (.bool true)) ∧ OldK s₁.heap s'.heap ∧ s'.os = s₁.os ∧ AllBare s'.gens) s₁ := by
  let o₁ : Obj := { cls := .type "list", data := .seq vs.toArray }
  -- what is tracked at the start: the script, unless it is an object of the module's
  obtain ⟨H, hO, hS, hok, hA, hKa⟩ : ∃ H : Hp, Only H ∧ SqL K H a (ns.map V.int) ∧ HOk P w H s₁.heap ∧ (∀ b, H b ≠ none → b = a) ∧ (H a ≠ none → K.lookup a = none) := by
    have lv : (ns.map V.int).length ≤ sizeLine := by
      rw [List.length_map]
      exact hl
    cases hk : K.lookup a with
    | some o =>
      have eo := (KX a o hk).symm.trans ha
      cases eo
      refine ⟨fun _ => none, fun _ => .inl rfl, .inr ⟨_, vs.toArray, _, hk, rfl, rfl, rfl, ?_, ?_⟩, ?_, ?_, ?_⟩
      · rw [List.size_toArray, hi.length]
        exact hl
      · exact vals_ints hi
      · intro b u z
        exact absurd (show (none : Option HO) = some u from z) (by intro y; cases y)
      · intro b z
        exact absurd rfl z
      · intro z
        exact absurd rfl z
    | none =>
      have at_a : (fun b => if b = a then some (HO.frz o₁ (.lst (ns.map V.int))) else none : Hp) a = some (HO.frz o₁ (.lst (ns.map V.int))) := if_pos rfl
      have off : ∀ b, b ≠ a → (fun b => if b = a then some (HO.frz o₁ (.lst (ns.map V.int))) else none : Hp) b = none := fun b hb => if_neg hb
      refine ⟨fun b => if b = a then some (.frz o₁ (.lst (ns.map V.int))) else none, fun b => ?_, .inl (.inr ⟨o₁, at_a⟩), fun b u z => ?_, fun b z => ?_, fun _ => rfl⟩
      · by_cases hb : b = a
        · subst hb
          exact .inr ⟨_, _, at_a⟩
        · exact .inl (off b hb)
      · by_cases hb : b = a
        · subst hb
          have z2 := at_a.symm.trans z
          cases z2
          exact ⟨ha, lv, vs, _, vals_ints hi, ha⟩
        · have z2 := (off b hb).symm.trans z
          cases z2
      · by_cases hb : b = a
        · exact hb
        · exact absurd (off b hb) z
  have nodict : ∀ {b : Addr} {o : Obj} {es : Array DictEntry} {ep : Nat}, s₁.heap.get? b = some o → o.data = .dict es ep → H b = none := by
    intro b o es ep eo ed
    cases q : H b with
    | none => rfl
    | some u =>
      have hb : b = a := hA b (by rw [q]; intro z; cases z)
      subst hb
      have z := ha.symm.trans eo
      cases z
      cases ed
  have nsK : ∀ {b : Addr} {m : Str → Option Value}, s₁.heap.Ns b m → (hidT s₁.heap H).Ns b m := by
    rintro b m ⟨o, es, ep, eo, ed, r⟩
    exact ⟨o, es, ep, hidT_get eo (nodict eo ed), ed, r⟩
  have KB : K.In (hidT s₁.heap H) := by
    intro b o eo
    refine hidT_get (KX b o eo) ?_
    cases q : H b with
    | none => rfl
    | some u =>
      have hb : b = a := hA b (by rw [q]; intro z; cases z)
      subst hb
      have z := hKa (by rw [q]; intro z; cases z)
      rw [eo] at z
      cases z
  have M : Mod K mg (hidT s₁.heap H) := by
    obtain ⟨mc, l1, l2⟩ := hlim
    exact ⟨KB, nsK hns, ⟨mb, nsK hb, hbb⟩, ⟨mc, nsK l1, l2⟩⟩
  have e0 : Env0 P w K mg (hidT s₁.heap H) callerA [] s₁ H := by
    refine ⟨rfl, M, fun b o e => of_hidT e, Nat.le_of_eq (hidT_size _ _), trivial, fun b hb => ?_, hok, .of_eq hg⟩
    exact absurd (show b ∈ ([] : List Addr) from hb) List.not_mem_nil
  refine codeAny_mono ((F _ KB (nsK hns)).goes callerA [] s₁ H ⟨[.ref a], []⟩ [.ref a] [.ref a] _ _ rfl hr e0 (hbind s₁ (.ref a)) (.cons rfl .nil) (hsp H hO hS)) fun r s' h => ?_
  cases r with
  | error e => exact h.elim
  | ok fl =>
    cases fl with
    | next => exact False.elim h
    | brk => exact False.elim h
    | cont => exact False.elim h
    | ret u =>
      obtain ⟨v, H', os, bare, un, hok', rv, (hv : v = .bl true)⟩ := h
      subst hv
      obtain rfl : u = Value.bool true := rv
      refine ⟨rfl, OldK.of_keep fun b o eo => ?_, os, bare⟩
      cases q : H b with
      | none => exact un.keep b o eo q (fun z => List.not_mem_nil z) List.not_mem_nil
      | some u =>
        rcases hO b with z | ⟨ob, xs, z⟩
        · rw [q] at z
          cases z
        · obtain ⟨e1, _⟩ := hok b _ z
          obtain ⟨e2, _⟩ := hok' b _ (un.frzs b ob _ z)
          have e3 := eo.symm.trans e1
          cases e3
          exact e2
theorem walkG {l : PySem.W.OpenLaw} {n k : Nat} {q : Program} {loose : List Str} {XP : (Str → Option Value) → Heap → Prop} {YP : World → Heap → Prop} {d : DefRec} {K : Params → PySem.W.Frag} {sp : World → Sp} {x : Str}
    (hn : l.most = some n) (hn2 : n ≤ sizeLine) (hdf : d.params.defaults = []) (hr : Room k callerA) (hY : ∀ (w : World) (h : Heap), YP w h → (K w.params).In h)
    (F : ∀ (w : World) (mg : Str → Option Value) (fa : Addr) (h : Heap), (K w.params).In h → h.Ns mainGlobals mg → mg d.name = some (.ref fa) →
      ∃ fd : FuncData, (∀ (s : Shared) (u : Value), BindsTo s fd ⟨[u], []⟩ [(x, u)]) ∧ ∀ base : Heap, (K w.params).In base → base.Ns mainGlobals mg → FnG l.prog w (K w.params) mg base k fa fd [x] (sp w))
    (hsp : ∀ (w : World) (H : Hp) (a : Addr) (ns : List Int), ns.length ≤ n → Only H → SqL (K w.params) H a (ns.map V.int) → sp w [.ref a] H (fun v _ => v = .bl true) fun _ _ _ => False) :
    PySem.W.WalkO q loose XP YP l.row.toRowW d [] (fun f vs => PySem.call f vs) := by
  refine Att.attach_call hn hdf fun w s₀ s₁ mg mb fa o pm cd doc a vs ns G Y ho hd hcd hmg hobj hints hlen hg => ?_
  obtain ⟨fd, hb, hF⟩ := F w mg fa _ (hY w _ Y) G.T.g hmg
  exact callG (hY w _ Y) G.T.g G.T.b G.T.builtins G.T.nolimit hg hobj hints (Nat.le_trans hlen hn2) hr hF hb fun H hO hS => hsp w H a ns hlen hO hS
end Lk

set_option Elab.async false
set_option linter.all false
set_option maxRecDepth 100000
set_option maxHeartbeats 4000000
namespace Mi
open PySem PySem.Spec PyProof.Rows L2
/-! ### data: values with what they lead to -/
inductive D where
  | non | bl (b : Bool) | int (i : Int) | str (s : Str) | ty (n : String) | cls (n : String)
  | tup (xs : List D) | lst (xs : List D) | slst (ns : List Int) | dic (kvs : List (D × D)) | dit (kvs : List (D × D))
  | ins (n : String) (fs : List (Str × D)) | exc (n : String) (fs : List (Str × D))
instance : Inhabited D := ⟨.non⟩
/-- where the classes stand -/
structure Ga where
  K : PySem.W.Frag
  ca : String → Addr
def dKey : Key → D
  | .inl i => .int i
  | .inr s => .str s
mutual
inductive Dt (Γ : Ga) (H : Hp) : V → D → Prop
  | non : Dt Γ H .non .non
  | bl (b : Bool) : Dt Γ H (.bl b) (.bl b)
  | int (i : Int) : Dt Γ H (.int i) (.int i)
  | str (s : Str) : Dt Γ H (.str s) (.str s)
  | ty (n : String) : Dt Γ H (.ty n) (.ty n)
  | cls (n : String) : Dt Γ H (.ref (Γ.ca n)) (.cls n)
  | tup {a : Addr} {vs : List V} {ds : List D} (h : SqT Γ.K H a vs) (r : Dts Γ H vs ds) : Dt Γ H (.ref a) (.tup ds)
  | lst {a : Addr} {vs : List V} {ds : List D} (h : H a = some (.lst vs)) (r : Dts Γ H vs ds) : Dt Γ H (.ref a) (.lst ds)
  | slst {a : Addr} {ns : List Int} (h : SqL Γ.K H a (ns.map V.int)) : Dt Γ H (.ref a) (.slst ns)
  | dK {a : Addr} {kvs : List (Key × V)} {ds : List (D × D)} (h : H a = some (.dK kvs)) (r : Dks Γ H kvs ds) : Dt Γ H (.ref a) (.dic ds)
  | dT {a : Addr} {kvs : List (List Key × V)} {ds : List (D × D)} (h : H a = some (.dT kvs)) (r : DkT Γ H kvs ds) : Dt Γ H (.ref a) (.dit ds)
  | ins {a dx : Addr} {n : String} {fs : List (Str × V)} {gs : List (Str × D)} (h : H a = some (.ins (Γ.ca n) dx fs)) (r : Dfs Γ H fs gs) : Dt Γ H (.ref a) (.ins n gs)
inductive Dts (Γ : Ga) (H : Hp) : List V → List D → Prop
  | nil : Dts Γ H [] []
  | cons {v : V} {d : D} {vs : List V} {ds : List D} (h : Dt Γ H v d) (r : Dts Γ H vs ds) : Dts Γ H (v :: vs) (d :: ds)
inductive Dfs (Γ : Ga) (H : Hp) : List (Str × V) → List (Str × D) → Prop
  | nil : Dfs Γ H [] []
  | cons {f : Str} {v : V} {d : D} {vs : List (Str × V)} {ds : List (Str × D)} (h : Dt Γ H v d) (r : Dfs Γ H vs ds) : Dfs Γ H ((f, v) :: vs) ((f, d) :: ds)
inductive Dks (Γ : Ga) (H : Hp) : List (Key × V) → List (D × D) → Prop
  | nil : Dks Γ H [] []
  | cons {k : Key} {v : V} {d : D} {vs : List (Key × V)} {ds : List (D × D)} (h : Dt Γ H v d) (r : Dks Γ H vs ds) : Dks Γ H ((k, v) :: vs) ((dKey k, d) :: ds)
inductive DkT (Γ : Ga) (H : Hp) : List (List Key × V) → List (D × D) → Prop
  | nil : DkT Γ H [] []
  | cons {k : List Key} {v : V} {d : D} {vs : List (List Key × V)} {ds : List (D × D)} (h : Dt Γ H v d) (r : DkT Γ H vs ds) : DkT Γ H ((k, v) :: vs) ((.tup (k.map dKey), d) :: ds)
end
section
variable {Γ : Ga} {H H' G G' : Hp}
theorem Same.sqT {K : PySem.W.Frag} {a : Addr} {xs : List V} (e : Same H H') (h : SqT K H a xs) : SqT K H' a xs := by
  rcases h with (h | ⟨o, h⟩) | h
  · exact .inl (.inl (e _ _ h))
  · exact .inl (.inr ⟨o, e _ _ h⟩)
  · exact .inr h
mutual
theorem Dt.same (s : Same H H') : ∀ {v : V} {d : D}, Dt Γ H v d → Dt Γ H' v d
  | _, _, .non => .non
  | _, _, .bl b => .bl b
  | _, _, .int i => .int i
  | _, _, .str x => .str x
  | _, _, .ty n => .ty n
  | _, _, .cls n => .cls n
  | _, _, .tup h r => .tup (Same.sqT s h) (Dts.same s r)
  | _, _, .lst h r => .lst (s _ _ h) (Dts.same s r)
  | _, _, .slst h => .slst (s.seq h)
  | _, _, .dK h r => .dK (s _ _ h) (Dks.same s r)
  | _, _, .dT h r => .dT (s _ _ h) (DkT.same s r)
  | _, _, .ins h r => .ins (s _ _ h) (Dfs.same s r)
theorem Dts.same (s : Same H H') : ∀ {v : List V} {d : List D}, Dts Γ H v d → Dts Γ H' v d
  | _, _, .nil => .nil
  | _, _, .cons h r => .cons (Dt.same s h) (Dts.same s r)
theorem Dfs.same (s : Same H H') : ∀ {v : List (Str × V)} {d : List (Str × D)}, Dfs Γ H v d → Dfs Γ H' v d
  | _, _, .nil => .nil
  | _, _, .cons h r => .cons (Dt.same s h) (Dfs.same s r)
theorem Dks.same (s : Same H H') : ∀ {v : List (Key × V)} {d : List (D × D)}, Dks Γ H v d → Dks Γ H' v d
  | _, _, .nil => .nil
  | _, _, .cons h r => .cons (Dt.same s h) (Dks.same s r)
theorem DkT.same (s : Same H H') : ∀ {v : List (List Key × V)} {d : List (D × D)}, DkT Γ H v d → DkT Γ H' v d
  | _, _, .nil => .nil
  | _, _, .cons h r => .cons (Dt.same s h) (DkT.same s r)
end
theorem Dts.len : ∀ {v : List V} {d : List D}, Dts Γ H v d → v.length = d.length
  | _, _, .nil => rfl
  | _, _, .cons _ r => congrArg (· + 1) r.len
theorem Dts.app : ∀ {v v2 : List V} {d d2 : List D}, Dts Γ H v d → Dts Γ H v2 d2 → Dts Γ H (v ++ v2) (d ++ d2)
  | _, _, _, _, .nil, s => s
  | _, _, _, _, .cons h r, s => .cons h (r.app s)
theorem Dts.get : ∀ {v : List V} {d : List D} {i : Nat} {x : D}, Dts Γ H v d → d[i]? = some x → ∃ u, v[i]? = some u ∧ Dt Γ H u x
  | _, _, 0, _, .cons h _, e => by
    cases e
    exact ⟨_, rfl, h⟩
  | _, _, i + 1, x, .cons _ r, e => by
    obtain ⟨u, h1, h2⟩ := r.get (i := i) (x := x) (by simpa using e)
    exact ⟨u, by simpa using h1, h2⟩
theorem Dts.getV : ∀ {v : List V} {d : List D} {i : Nat} {u : V}, Dts Γ H v d → v[i]? = some u → ∃ x, d[i]? = some x ∧ Dt Γ H u x
  | _, _, 0, _, .cons h _, e => by
    cases e
    exact ⟨_, rfl, h⟩
  | _, _, i + 1, x, .cons _ r, e => by
    obtain ⟨u, h1, h2⟩ := r.getV (i := i) (u := x) (by simpa using e)
    exact ⟨u, by simpa using h1, h2⟩
theorem Dts.set : ∀ {v : List V} {d : List D} (i : Nat) {u : V} {x : D}, Dts Γ H v d → Dt Γ H u x → Dts Γ H (v.set i u) (d.set i x)
  | _, _, _, _, _, .nil, _ => .nil
  | _, _, 0, _, _, .cons _ r, h => .cons h r
  | _, _, i + 1, _, _, .cons h' r, h => .cons h' (r.set i h)
theorem Dts.take : ∀ {v : List V} {d : List D} (n : Nat), Dts Γ H v d → Dts Γ H (v.take n) (d.take n)
  | _, _, 0, _ => .nil
  | _, _, _ + 1, .nil => .nil
  | _, _, n + 1, .cons h r => .cons h (r.take n)
theorem Dts.drop : ∀ {v : List V} {d : List D} (n : Nat), Dts Γ H v d → Dts Γ H (v.drop n) (d.drop n)
  | _, _, 0, r => r
  | _, _, _ + 1, .nil => .nil
  | _, _, n + 1, .cons _ r => r.drop n
theorem Dts.rev {v : List V} {d : List D} (h : Dts Γ H v d) : Dts Γ H v.reverse d.reverse := by
  induction v generalizing d with
  | nil => cases h; exact .nil
  | cons v vs ih =>
    cases h with
    | cons h r =>
      rw [List.reverse_cons, List.reverse_cons]
      exact (ih r).app (.cons h .nil)
theorem Dts.rep {v : List V} {d : List D} (h : Dts Γ H v d) : ∀ k : Nat, Dts Γ H (List.replicate k v).flatten (List.replicate k d).flatten
  | 0 => .nil
  | k + 1 => by
    rw [List.replicate_succ, List.replicate_succ, List.flatten_cons, List.flatten_cons]
    exact h.app (Dts.rep h k)
theorem Dts.ints : ∀ (ns : List Int), Dts Γ H (ns.map V.int) (ns.map D.int)
  | [] => .nil
  | n :: ns => .cons (.int n) (Dts.ints ns)
theorem Dts.of_ints : ∀ {v : List V} {ns : List Int}, Dts Γ H v (ns.map D.int) → v = ns.map V.int
  | _, [], h => by cases h; rfl
  | _, n :: ns, h => by
    cases h with
    | cons h r =>
      cases h
      rw [r.of_ints]
      rfl
theorem Dfs.lookup : ∀ {v : List (Str × V)} {d : List (Str × D)} {f : Str} {x : D}, Dfs Γ H v d → d.lookup f = some x → ∃ u, v.lookup f = some u ∧ Dt Γ H u x
  | _, _, _, _, .nil, e => by cases e
  | _, _, f, x, .cons (f := g) h r, e => by
    rw [List.lookup_cons] at e ⊢
    cases hb : f == g with
    | true =>
      rw [hb] at e
      cases e
      exact ⟨_, rfl, h⟩
    | false =>
      rw [hb] at e
      exact r.lookup e
theorem Dfs.lookN : ∀ {v : List (Str × V)} {d : List (Str × D)} {f : Str}, Dfs Γ H v d → d.lookup f = none → v.lookup f = none
  | _, _, _, .nil, _ => rfl
  | _, _, f, .cons (f := g) h r, e => by
    rw [List.lookup_cons] at e ⊢
    cases hb : f == g with
    | true => rw [hb] at e; cases e
    | false => rw [hb] at e; exact r.lookN e
def putD (f : Str) (v : D) : List (Str × D) → List (Str × D)
  | [] => [(f, v)]
  | (g, x) :: r => if g = f then (g, v) :: r else (g, x) :: putD f v r
theorem Dfs.put : ∀ {v : List (Str × V)} {d : List (Str × D)} {f : Str} {u : V} {x : D}, Dfs Γ H v d → Dt Γ H u x → Dfs Γ H (putF f u v) (putD f x d)
  | _, _, _, _, _, .nil, h => .cons h .nil
  | _, _, f, _, _, .cons (f := g) h' r, h => by
    unfold putF putD
    by_cases e : g = f
    · rw [if_pos e, if_pos e]
      exact .cons h r
    · rw [if_neg e, if_neg e]
      exact .cons h' (r.put h)
theorem Dfs.len : ∀ {v : List (Str × V)} {d : List (Str × D)}, Dfs Γ H v d → v.length = d.length
  | _, _, .nil => rfl
  | _, _, .cons _ r => congrArg (· + 1) r.len
end
/-! ### what one alone holds -/
inductive OwnO (Γ : Ga) (G : Hp) : HO → D → Prop
  | lst {vs : List V} {ds : List D} (r : Dts Γ G vs ds) : OwnO Γ G (.lst vs) (.lst ds)
  | ins {n : String} {dx : Addr} {fs : List (Str × V)} {gs : List (Str × D)} (r : Dfs Γ G fs gs) : OwnO Γ G (.ins (Γ.ca n) dx fs) (.ins n gs)
  | dK {kvs : List (Key × V)} {ds : List (D × D)} (r : Dks Γ G kvs ds) : OwnO Γ G (.dK kvs) (.dic ds)
  | dT {kvs : List (List Key × V)} {ds : List (D × D)} (r : DkT Γ G kvs ds) : OwnO Γ G (.dT kvs) (.dit ds)
section
variable {Γ : Ga} {H H' G G' : Hp} {a : Addr} {o : HO} {d : D}
theorem OwnO.same (s : Same G G') (h : OwnO Γ G o d) : OwnO Γ G' o d := by
  cases h with
  | lst r => exact .lst (r.same s)
  | ins r => exact .ins (r.same s)
  | dK r => exact .dK (r.same s)
  | dT r => exact .dT (r.same s)
theorem OwnO.dt (h : OwnO Γ G o d) (e : G a = some o) : Dt Γ G (.ref a) d := by
  cases h with
  | lst r => exact .lst e r
  | ins r => exact .ins e r
  | dK r => exact .dK e r
  | dT r => exact .dT e r
end
abbrev Env := List (Option D)
/-- the addresses at the slots cs -/
def T (cs : List Nat) (σ : L2.St) (a : Addr) : Prop := ∃ i ∈ cs, σ[i]? = some (some (.ref a))
/-- the slots are as ρ says; those at cs hold what nobody else knows; G is what stands for good -/
structure Rep (Γ : Ga) (cs : List Nat) (σ : L2.St) (H G : Hp) (ρ : Env) : Prop where
  len : ρ.length = σ.length
  sub : Same G H
  un : ∀ i : Nat, ρ[i]? = some none → σ[i]? = some none
  dat : ∀ (i : Nat) (d : D), i ∉ cs → ρ[i]? = some (some d) → ∃ v, σ[i]? = some (some v) ∧ Dt Γ G v d
  own : ∀ (i : Nat) (d : D), i ∈ cs → ρ[i]? = some (some d) → ∃ a o, σ[i]? = some (some (.ref a)) ∧ H a = some o ∧ G a = none ∧ OwnO Γ G o d
  sep : ∀ (i j : Nat) (a : Addr), i ∈ cs → j ∈ cs → σ[i]? = some (some (.ref a)) → σ[j]? = some (some (.ref a)) → i = j
/-- a step: what stands stays, but for what lies at T; what stood apart from G stays apart -/
structure Stp (T : Addr → Prop) (H G H' G' : Hp) : Prop where
  g : Same G G'
  h : ∀ a o, H a = some o → ¬ T a → H' a = some o
  t : ∀ a, H a ≠ none → H' a ≠ none
  n : ∀ a, G a = none → H a ≠ none → ¬ T a → G' a = none
section
variable {T0 T1 : Addr → Prop} {H G H1 G1 H2 G2 : Hp}
theorem Stp.refl : Stp T0 H G H G := ⟨Same.refl _, fun _ _ h _ => h, fun _ h => h, fun _ h _ _ => h⟩
theorem Stp.trans (a : Stp T0 H G H1 G1) (b : Stp T1 H1 G1 H2 G2) (hT : ∀ x, T1 x → T0 x ∨ H x = none) : Stp T0 H G H2 G2 where
  g := a.g.trans b.g
  h := fun x o hx nx => b.h x o (a.h x o hx nx) fun z => (hT x z).elim nx fun e => by rw [hx] at e; cases e
  t := fun x hx => b.t x (a.t x hx)
  n := fun x gx hx nx => b.n x (a.n x gx hx nx) (a.t x hx) fun z => (hT x z).elim nx hx
theorem Stp.mono (a : Stp T0 H G H1 G1) (hT : ∀ x, T0 x → T1 x) : Stp T1 H G H1 G1 := ⟨a.g, fun x o hx nx => a.h x o hx fun z => nx (hT x z), a.t, fun x gx hx nx => a.n x gx hx fun z => nx (hT x z)⟩
theorem Stp.tr (a : Stp T0 H G H1 G1) (b : Stp T0 H1 G1 H2 G2) : Stp T0 H G H2 G2 := a.trans b fun _ z => .inl z
end
/-- a step that touches nothing that stood -/
structure Ext (H G H' G' : Hp) : Prop where
  st : Stp (fun _ => False) H G H' G'
  sub : Same G' H'
section
variable {Γ : Ga} {cs ts : List Nat} {σ : L2.St} {H G H' G' : Hp} {ρ : Env} {a : Addr} {o : HO}
theorem Ext.h (e : Ext H G H' G') : Same H H' := fun x u hx => e.st.h x u hx fun z => z
theorem Ext.refl (s : Same G H) : Ext H G H G := ⟨Stp.refl, s⟩
theorem Ext.any (e : Ext H G H' G') {T0 : Addr → Prop} : Stp T0 H G H' G' := e.st.mono fun _ z => z.elim
theorem Ext.trans {H2 G2 : Hp} (a : Ext H G H' G') (b : Ext H' G' H2 G2) : Ext H G H2 G2 := ⟨a.st.tr b.st, b.sub⟩
/-- a new object that stands for good -/
theorem Ext.new (s : Same G H) (h : H a = none) : Ext H G (upd H a o) (upd G a o) := by
  have ga : G a = none := by
    cases e : G a with
    | none => rfl
    | some u => rw [s _ _ e] at h; cases h
  refine ⟨⟨fun x u hx => ?_, fun x u hx _ => ?_, fun x hx => ?_, fun x gx hx _ => ?_⟩, fun x u hx => ?_⟩
  · rw [upd_ne (ne_of_none hx ga)]; exact hx
  · rw [upd_ne (ne_of_none hx h)]; exact hx
  · by_cases e : x = a
    · rw [e, upd_same]; intro z; cases z
    · rw [upd_ne e]; exact hx
  · rw [upd_ne (fun e => hx (by rw [e]; exact h))]; exact gx
  · by_cases e : x = a
    · rw [e, upd_same] at hx ⊢; exact hx
    · rw [upd_ne e] at hx ⊢; exact s _ _ hx
/-- a new object that is no one's yet -/
theorem Ext.newOwn (s : Same G H) (h : H a = none) : Ext H G (upd H a o) G := by
  refine ⟨⟨Same.refl _, fun x u hx _ => ?_, fun x hx => ?_, fun x gx hx _ => gx⟩, fun x u hx => ?_⟩
  · rw [upd_ne (ne_of_none hx h)]; exact hx
  · by_cases e : x = a
    · rw [e, upd_same]; intro z; cases z
    · rw [upd_ne e]; exact hx
  · have hx2 := s _ _ hx
    rw [upd_ne (ne_of_none hx2 h)]; exact hx2
theorem free_sub (s : Same G H) (h : H a = none) : G a = none := by
  cases e : G a with
  | none => rfl
  | some u => rw [s _ _ e] at h; cases h
theorem Rep.cell (r : Rep Γ cs σ H G ρ) {i : Nat} (hi : i ∈ cs) {v : V} (h : σ[i]? = some (some v)) : ∃ d a o, v = .ref a ∧ ρ[i]? = some (some d) ∧ H a = some o ∧ G a = none ∧ OwnO Γ G o d := by
  have hl : i < ρ.length := by rw [r.len]; exact (List.getElem?_eq_some_iff.mp h).1
  cases e : ρ[i]? with
  | none => rw [List.getElem?_eq_none_iff] at e; omega
  | some x =>
    cases x with
    | none => rw [r.un i e] at h; cases h
    | some d =>
      obtain ⟨a, o, h1, h2, h3, h4⟩ := r.own i d hi e
      rw [h] at h1
      exact ⟨d, a, o, Option.some.inj (Option.some.inj h1), rfl, h2, h3, h4⟩
theorem Rep.tc (r : Rep Γ cs σ H G ρ) {a : Addr} (h : T cs σ a) : H a ≠ none ∧ G a = none := by
  obtain ⟨i, hi, e⟩ := h
  obtain ⟨d, b, o, hv, hr, h2, h3, hw⟩ := r.cell hi e
  injection hv with hv
  subst hv
  exact ⟨(by rw [h2]; intro z; cases z), h3⟩
theorem Rep.Tn (r : Rep Γ cs σ H G ρ) {a : Addr} (h : H a = none) : ¬ T cs σ a := fun z => (r.tc z).1 h
/-- the representation behind a step that touches none of it -/
theorem Rep.ext (r : Rep Γ cs σ H G ρ) (e : Ext H G H' G') : Rep Γ cs σ H' G' ρ where
  len := r.len
  sub := e.sub
  un := r.un
  dat := fun i d hi h => let ⟨v, h1, h2⟩ := r.dat i d hi h; ⟨v, h1, h2.same e.st.g⟩
  own := fun i d hi h => by
    obtain ⟨a, o, h1, h2, h3, h4⟩ := r.own i d hi h
    exact ⟨a, o, h1, e.h _ _ h2, e.st.n a h3 (by rw [h2]; intro z; cases z) (fun z => z), h4.same e.st.g⟩
  sep := r.sep
/-- some of the cells are given up -/
theorem Rep.freeze (r : Rep Γ cs σ H G ρ) {cs' : List Nat} (hs : ∀ i ∈ cs', i ∈ cs) : ∃ G', Rep Γ cs' σ H G' ρ ∧ Same G G' ∧ ∀ a, G a = none → ¬ T cs σ a → G' a = none := by
  classical
  let P : Addr → Prop := fun a => ∃ i, i ∈ cs ∧ i ∉ cs' ∧ σ[i]? = some (some (.ref a))
  let G' : Hp := fun a => if P a then H a else G a
  have gP : ∀ a, P a → G' a = H a := fun a h => if_pos h
  have gN : ∀ a, ¬ P a → G' a = G a := fun a h => if_neg h
  have PT : ∀ a, P a → T cs σ a := fun a h => by
    obtain ⟨i, h1, _, h3⟩ := h
    exact ⟨i, h1, h3⟩
  have sg : Same G G' := fun a o h => by
    by_cases p : P a
    · rw [gP a p]; exact r.sub _ _ h
    · rw [gN a p]; exact h
  refine ⟨G', ⟨r.len, fun a o h => ?_, r.un, fun i d hi h => ?_, fun i d hi h => ?_, fun i j a hi hj => r.sep i j a (hs i hi) (hs j hj)⟩, sg, fun a h n => ?_⟩
  · by_cases p : P a
    · rw [gP a p] at h; exact h
    · rw [gN a p] at h; exact r.sub _ _ h
  · by_cases hc : i ∈ cs
    · obtain ⟨a, o, h1, h2, h3, h4⟩ := r.own i d hc h
      refine ⟨.ref a, h1, (h4.same sg).dt ?_⟩
      rw [gP a ⟨i, hc, hi, h1⟩]
      exact h2
    · obtain ⟨v, h1, h2⟩ := r.dat i d hc h
      exact ⟨v, h1, h2.same sg⟩
  · obtain ⟨a, o, h1, h2, h3, h4⟩ := r.own i d (hs i hi) h
    refine ⟨a, o, h1, h2, ?_, h4.same sg⟩
    rw [gN a fun ⟨j, q1, q2, q3⟩ => q2 (by rw [r.sep j i a q1 (hs i hi) q3 h1]; exact hi)]
    exact h3
  · rw [gN a fun p => n (PT a p)]
    exact h
end
/-! ### results -/
inductive Md | full | root | own
  deriving DecidableEq
/-- what a result is: data for good; data whose root may be a cell's; a new object of nobody's -/
def RM (Γ : Ga) (m : Md) (H0 H G : Hp) (v : V) (d : D) : Prop := match m with
  | .full => Dt Γ G v d
  | .root => Dt Γ G v d ∨ ∃ a o, v = .ref a ∧ H a = some o ∧ OwnO Γ G o d
  | .own => ∃ a o, v = .ref a ∧ H0 a = none ∧ H a = some o ∧ G a = none ∧ OwnO Γ G o d
theorem RM.back {Γ : Ga} {m : Md} {H0 H1 H G : Hp} {v : V} {d : D} (r : RM Γ m H1 H G v d) (t : ∀ a, H0 a ≠ none → H1 a ≠ none) : RM Γ m H0 H G v d := by
  cases m with
  | full => exact r
  | root => exact r
  | own =>
    obtain ⟨a, o, h1, h2, h3, h4, h5⟩ := r
    refine ⟨a, o, h1, ?_, h3, h4, h5⟩
    cases e : H0 a with
    | none => rfl
    | some u => exact absurd h2 (t a (by rw [e]; intro z; cases z))
inductive R | ok (d : D) (ρ : Env) | ex (x : D) (ρ : Env)
abbrev E := Env → Option R
/-- an exception as it comes -/
def Dx (Γ : Ga) (H G : Hp) (c : Value) (dx : Option Addr) (x : D) : Prop := ∃ n fs, x = .exc n fs ∧ c = .ref (Γ.ca n) ∧ ((fs = [] ∧ dx = none) ∨ ∃ a gs, dx = some a ∧ H a = some (.xd gs) ∧ Dfs Γ G gs fs)
def Fin (Γ : Ga) (cs ts : List Nat) (W : WX) (m : Md) (σ : L2.St) (H G : Hp) (Q : VK) : Option R → Prop
  | none => False
  | some (.ok d ρ') => ∀ v H' G', Rep Γ cs σ H' G' ρ' → Stp (T ts σ) H G H' G' → RM Γ m H H' G' v d → Q v H'
  | some (.ex x ρ') => ∀ c dx H' G', Rep Γ cs σ H' G' ρ' → Stp (T ts σ) H G H' G' → Dx Γ H' G' c dx x → W c dx σ H'
/-- an expression's reading by its mirror f -/
def tE (Γ : Ga) (cs ts : List Nat) (W : WX) (m : Md) (f : E) : TE := fun σ H Q => ∃ G ρ, Rep Γ cs σ H G ρ ∧ Fin Γ cs ts W m σ H G Q (f ρ)
theorem PE.imp {X : Cx} {e : Expr} {t t' : TE} (h : PE X e t) (k : ∀ σ H Q, t' σ H Q → t σ H Q) : PE X e t' := ⟨fun pins s σ H Q I hw => h.run pins s σ H Q I (k σ H Q hw)⟩
theorem PT.imp {X : Cx} {e : Expr} {t t' : TT} (h : PT X e t) (k : ∀ σ H Q, t' σ H Q → t σ H Q) : PT X e t' := ⟨fun pins s σ H Q I hw => h.run pins s σ H Q I (k σ H Q hw)⟩
theorem PW.imp {X : Cx} {e : Expr} {t t' : TT} (h : PW X e t) (k : ∀ σ H Q, t' σ H Q → t σ H Q) : PW X e t' := ⟨fun wh pins s σ H Q I hw => h.run wh pins s σ H Q I (k σ H Q hw)⟩
theorem PA.imp {X : Cx} {e : List Expr} {t t' : TA} (h : PA X e t) (k : ∀ σ H Q, t' σ H Q → t σ H Q) : PA X e t' := ⟨fun p pins s σ H Q I hw => h.run p pins s σ H Q I (k σ H Q hw)⟩
theorem PS.imp {X : Cx} {e : Stmt} {t t' : TS} (h : PS X e t) (k : ∀ D σ H, t' D σ H → t D σ H) : PS X e t' := ⟨fun pins s σ H D I hw => h.run pins s σ H D I (k D σ H hw)⟩
theorem PSs.imp {X : Cx} {e : List Stmt} {t t' : TS} (h : PSs X e t) (k : ∀ D σ H, t' D σ H → t D σ H) : PSs X e t' := ⟨fun pins s σ H D I hw => h.run pins s σ H D I (k D σ H hw)⟩
def eBind (r : Option R) (k : D → Env → Option R) : Option R := match r with
  | none => none
  | some (.ok d ρ) => k d ρ
  | some (.ex x ρ) => some (.ex x ρ)
@[simp] theorem eBind_ok {d : D} {ρ : Env} {k : D → Env → Option R} : eBind (some (.ok d ρ)) k = k d ρ := rfl
@[simp] theorem eBind_ex {d : D} {ρ : Env} {k : D → Env → Option R} : eBind (some (.ex d ρ)) k = some (.ex d ρ) := rfl
@[simp] theorem eBind_none {k : D → Env → Option R} : eBind none k = none := rfl
def lift (o : Option D) (ρ : Env) : Option R := o.map fun d => .ok d ρ
@[simp] theorem lift_some {d : D} {ρ : Env} : lift (some d) ρ = some (.ok d ρ) := rfl
@[simp] theorem lift_none {ρ : Env} : lift none ρ = none := rfl
section
variable {Γ : Ga} {cs ts ts1 : List Nat} {W : WX} {m m1 : Md} {σ : L2.St} {H G H1 G1 : Hp} {ρ : Env} {Q Q1 : VK} {f g : E} {r : Option R}
theorem Fin.step (h : Fin Γ cs ts W m σ H G Q r) (s : Stp (T ts σ) H G H1 G1) : Fin Γ cs ts W m σ H1 G1 Q r := by
  rcases r with _ | ⟨d, ρ'⟩ | ⟨x, ρ'⟩
  · exact h
  · exact fun v H' G' rep st rm => h v H' G' rep (s.tr st) (rm.back s.t)
  · exact fun c dx H' G' rep st q => h c dx H' G' rep (s.tr st) q
theorem T.sub (hs : ∀ i ∈ ts1, i ∈ ts) {a : Addr} (h : T ts1 σ a) : T ts σ a := let ⟨i, hi, e⟩ := h; ⟨i, hs i hi, e⟩
theorem fin_bind {k : D → Env → Option R} (hs : ∀ i ∈ ts1, i ∈ ts) (fin : Fin Γ cs ts W m σ H G Q (eBind r k))
    (hk : ∀ v d ρ1 H1 G1, Rep Γ cs σ H1 G1 ρ1 → Stp (T ts1 σ) H G H1 G1 → RM Γ m1 H H1 G1 v d → Fin Γ cs ts W m σ H G Q (k d ρ1) → Q1 v H1) : Fin Γ cs ts1 W m1 σ H G Q1 r := by
  rcases r with _ | ⟨d, ρ'⟩ | ⟨x, ρ'⟩
  · exact fin
  · exact fun v H' G' rep st rm => hk v d ρ' H' G' rep st rm fin
  · exact fun c dx H' G' rep st q => fin c dx H' G' rep (st.mono fun _ z => T.sub hs z) q
theorem nil_sub : ∀ i ∈ ([] : List Nat), i ∈ ts := fun i h => absurd h List.not_mem_nil
theorem all_sub : ∀ i ∈ ts, i ∈ ts := fun i h => h
theorem T.nil {a : Addr} : ¬ T [] σ a := fun ⟨_, h, _⟩ => absurd h List.not_mem_nil
/-- the end of an expression: its value stands behind a step that touches nothing -/
theorem fin_ret {d : D} {v : V} (fin : Fin Γ cs ts W m σ H G Q (some (.ok d ρ))) (rep : Rep Γ cs σ H G ρ) {H' G' : Hp} (e : Ext H G H' G') (rm : RM Γ m H H' G' v d) : Q v H' := fin v H' G' (rep.ext e) e.any rm
/-- modes -/
theorem me_root {X : Cx} {e : Expr} (h : PE X e (tE Γ cs ts W .full f)) : PE X e (tE Γ cs ts W .root f) := PE.imp h fun σ H Q ⟨G, ρ, rep, fin⟩ => ⟨G, ρ, rep, by
  revert fin
  cases f ρ with
  | none => exact fun h => h
  | some r =>
    cases r with
    | ok d ρ' => exact fun h v H' G' r s q => h v H' G' r s (.inl q)
    | ex x ρ' => exact fun h => h⟩
theorem own_full {H0 H' G' : Hp} {v : V} {d : D} {ρ' : Env} (rep0 : Rep Γ cs σ H0 G ρ) (rep : Rep Γ cs σ H' G' ρ') (st : Stp (T ts σ) H0 G H' G') (rm : RM Γ .own H0 H' G' v d) :
    ∃ G2, Rep Γ cs σ H' G2 ρ' ∧ Stp (T ts σ) H0 G H' G2 ∧ Dt Γ G2 v d ∧ Same G' G2 := by
  obtain ⟨a, o, rfl, h1, h2, h3, h4⟩ := rm
  have sg : Same G' (upd G' a o) := fun x u hx => by rw [upd_ne (ne_of_none hx h3)]; exact hx
  refine ⟨upd G' a o, ⟨rep.len, fun x u hx => ?_, rep.un, fun i d hi h => ?_, fun i d hi h => ?_, rep.sep⟩, ⟨st.g.trans sg, st.h, st.t, fun x gx hx nx => ?_⟩, (h4.same sg).dt upd_same, sg⟩
  · by_cases e : x = a
    · rw [e, upd_same] at hx; rw [e, h2]; exact hx
    · rw [upd_ne e] at hx; exact rep.sub _ _ hx
  · obtain ⟨v, q1, q2⟩ := rep.dat i d hi h
    exact ⟨v, q1, q2.same sg⟩
  · obtain ⟨b, u, q1, q2, q3, q4⟩ := rep.own i d hi h
    refine ⟨b, u, q1, q2, ?_, q4.same sg⟩
    rw [upd_ne]
    · exact q3
    · rintro rfl
      exact (rep0.tc ⟨i, hi, q1⟩).1 h1
  · rw [upd_ne]
    · exact st.n x gx hx nx
    · rintro rfl
      exact hx h1
theorem me_own {X : Cx} {e : Expr} (h : PE X e (tE Γ cs ts W .own f)) : PE X e (tE Γ cs ts W .full f) := PE.imp h fun σ H Q ⟨G, ρ, rep, fin⟩ => ⟨G, ρ, rep, by
  revert fin
  cases f ρ with
  | none => exact fun h => h
  | some r =>
    cases r with
    | ok d ρ' =>
      intro h v H' G' r s q
      obtain ⟨G2, r2, s2, d2, _⟩ := own_full rep r s q
      exact h v H' G2 r2 s2 d2
    | ex x ρ' => exact fun h => h⟩
theorem me_ownR {X : Cx} {e : Expr} (h : PE X e (tE Γ cs ts W .own f)) : PE X e (tE Γ cs ts W .root f) := me_root (me_own h)
/-! ### names and constants -/
def eV (i : Nat) : E := fun ρ => match ρ[i]? with
  | some (some d) => some (.ok d ρ)
  | _ => none
def eC (d : D) : E := fun ρ => some (.ok d ρ)
theorem me_v {X : Cx} {e : Expr} {i : Nat} (h : PE X e (tVar i)) (hi : i ∉ cs := by decide) : PE X e (tE Γ cs ts W .full (eV i)) := PE.imp h fun σ H Q ⟨G, ρ, rep, fin⟩ => by
  unfold eV at fin
  cases e : ρ[i]? with
  | none => rw [e] at fin; exact fin.elim
  | some x =>
    cases x with
    | none => rw [e] at fin; exact fin.elim
    | some d =>
      rw [e] at fin
      obtain ⟨v, h1, h2⟩ := rep.dat i d hi e
      exact ⟨v, h1, fin v H G rep Stp.refl h2⟩
theorem me_cv {X : Cx} {e : Expr} {i : Nat} (h : PE X e (tVar i)) (hi : i ∈ cs := by decide) : PE X e (tE Γ cs ts W .root (eV i)) := PE.imp h fun σ H Q ⟨G, ρ, rep, fin⟩ => by
  unfold eV at fin
  cases e : ρ[i]? with
  | none => rw [e] at fin; exact fin.elim
  | some x =>
    cases x with
    | none => rw [e] at fin; exact fin.elim
    | some d =>
      rw [e] at fin
      obtain ⟨a, o, h1, h2, h3, h4⟩ := rep.own i d hi e
      exact ⟨.ref a, h1, fin (.ref a) H G rep Stp.refl (.inr ⟨a, o, rfl, h2, h4⟩)⟩
theorem me_c {X : Cx} {e : Expr} {v : V} {d : D} (h : PE X e (tC v)) (hd : ∀ H, Dt Γ H v d) : PE X e (tE Γ cs ts W .full (eC d)) := PE.imp h fun σ H Q ⟨G, ρ, rep, fin⟩ => fin v H G rep Stp.refl (hd G)
theorem me_int {X : Cx} {i : Int} {j pos} : PE X (.Constant (.int i) j pos) (tE Γ cs ts W .full (eC (.int i))) := me_c pe_int fun _ => .int i
theorem me_bl {X : Cx} {b : Bool} {j pos} : PE X (.Constant (.bool b) j pos) (tE Γ cs ts W .full (eC (.bl b))) := me_c pe_bl fun _ => .bl b
theorem me_non {X : Cx} {j pos} : PE X (.Constant .none j pos) (tE Γ cs ts W .full (eC .non)) := me_c pe_non fun _ => .non
theorem me_str {X : Cx} {x : Str} {j pos} : PE X (.Constant (.str x) j pos) (tE Γ cs ts W .full (eC (.str x))) := me_c pe_str fun _ => .str x
/-! ### operations by values -/
def e1 (op : D → Option D) (f : E) : E := fun ρ => eBind (f ρ) fun a ρ1 => lift (op a) ρ1
def e2 (op : D → D → Option D) (f g : E) : E := fun ρ => eBind (f ρ) fun a ρ1 => eBind (g ρ1) fun b ρ2 => lift (op a b) ρ2
/-- r tells no more than op does -/
def So1 (Γ : Ga) (m : Md) (r : V → Hp → VK → Prop) (op : D → Option D) : Prop := ∀ (H G : Hp) (x : V) (a z : D) (Q : VK), Same G H → RM Γ .root H H G x a → op a = some z →
  (∀ v H' G', Ext H G H' G' → RM Γ m H H' G' v z → Q v H') → r x H Q
def So2 (Γ : Ga) (m : Md) (r : R2) (op : D → D → Option D) : Prop := ∀ (H G : Hp) (x y : V) (a b z : D) (Q : VK), Same G H → RM Γ .root H H G x a → RM Γ .root H H G y b → op a b = some z →
  (∀ v H' G', Ext H G H' G' → RM Γ m H H' G' v z → Q v H') → r x y H Q
theorem core1 {ta : TE} {r : V → Hp → VK → Prop} {op : D → Option D} (so : So1 Γ m r op) (ha : ∀ σ H Q, tE Γ cs ts W .root f σ H Q → ta σ H Q) {σ : L2.St} {H : Hp} {Q : VK} (h : tE Γ cs ts W m (e1 op f) σ H Q) :
    ta σ H fun x H1 => r x H1 Q := by
  obtain ⟨G, ρ, rep, fin⟩ := h
  refine ha σ H _ ⟨G, ρ, rep, fin_bind all_sub fin fun v d ρ1 H1 G1 rep1 st1 rm1 fin1 => ?_⟩
  cases e : op d with
  | none => rw [e] at fin1; exact fin1.elim
  | some z =>
    rw [e] at fin1
    exact so H1 G1 v d z Q rep1.sub (show RM Γ .root H1 H1 G1 v d from rm1) e fun u H' G' ex rm => fin_ret (fin1.step st1) rep1 ex rm
theorem core2 {ta tb : TE} {r : R2} {op : D → D → Option D} (so : So2 Γ m r op) (ha : ∀ σ H Q, tE Γ cs ts W .full f σ H Q → ta σ H Q) (hb : ∀ σ H Q, tE Γ cs ts W .root g σ H Q → tb σ H Q) {σ : L2.St} {H : Hp} {Q : VK}
    (h : tE Γ cs ts W m (e2 op f g) σ H Q) : tOp r ta tb σ H Q := by
  obtain ⟨G, ρ, rep, fin⟩ := h
  refine ha σ H _ ⟨G, ρ, rep, fin_bind all_sub fin fun v d ρ1 H1 G1 rep1 st1 rm1 fin1 => ?_⟩
  refine hb σ H1 _ ⟨G1, ρ1, rep1, fin_bind all_sub (fin1.step st1) fun v2 d2 ρ2 H2 G2 rep2 st2 rm2 fin2 => ?_⟩
  cases e : op d d2 with
  | none => rw [e] at fin2; exact fin2.elim
  | some z =>
    rw [e] at fin2
    exact so H2 G2 v v2 d d2 z Q rep2.sub (.inl (Dt.same st2.g rm1)) (show RM Γ .root H2 H2 G2 v2 d2 from rm2) e fun u H' G' ex rm => fin_ret (fin2.step st2) rep2 ex rm
/-- .. the first one may be a cell's, the second one touches nothing -/
theorem core2R {ta tb : TE} {r : R2} {op : D → D → Option D} (so : So2 Γ m r op) (ha : ∀ σ H Q, tE Γ cs ts W .root f σ H Q → ta σ H Q) (hb : ∀ σ H Q, tE Γ cs [] W .root g σ H Q → tb σ H Q) {σ : L2.St} {H : Hp} {Q : VK}
    (h : tE Γ cs ts W m (e2 op f g) σ H Q) : tOp r ta tb σ H Q := by
  obtain ⟨G, ρ, rep, fin⟩ := h
  refine ha σ H _ ⟨G, ρ, rep, fin_bind all_sub fin fun v d ρ1 H1 G1 rep1 st1 rm1 fin1 => ?_⟩
  refine hb σ H1 _ ⟨G1, ρ1, rep1, fin_bind nil_sub (fin1.step st1) fun v2 d2 ρ2 H2 G2 rep2 st2 rm2 fin2 => ?_⟩
  cases e : op d d2 with
  | none => rw [e] at fin2; exact fin2.elim
  | some z =>
    rw [e] at fin2
    refine so H2 G2 v v2 d d2 z Q rep2.sub ?_ (show RM Γ .root H2 H2 G2 v2 d2 from rm2) e fun u H' G' ex rm => fin_ret (fin2.step (st2.mono fun _ z => absurd z T.nil)) rep2 ex rm
    rcases rm1 with z | ⟨a, o, h1, h2, h3⟩
    · exact .inl (Dt.same st2.g z)
    · exact .inr ⟨a, o, h1, st2.h _ _ h2 T.nil, h3.same st2.g⟩
section
variable {X : Cx} {a b : Expr} {pos : Pos} {r2 : R2} {op2 : D → D → Option D} {r1 : V → Hp → VK → Prop} {op1 : D → Option D}
theorem me_op {o : Operator} (ho : OpR X (binaryOp o) r2) (so : So2 Γ m r2 op2) (ha : PE X a (tE Γ cs ts W .full f)) (hb : PE X b (tE Γ cs ts W .root g)) : PE X (.BinOp a o b pos) (tE Γ cs ts W m (e2 op2 f g)) :=
  PE.imp (pe_op ho ha hb) fun _ _ _ h => core2 so (fun _ _ _ h => h) (fun _ _ _ h => h) h
theorem me_opR {o : Operator} (ho : OpR X (binaryOp o) r2) (so : So2 Γ m r2 op2) (ha : PE X a (tE Γ cs ts W .root f)) (hb : PE X b (tE Γ cs [] W .root g)) : PE X (.BinOp a o b pos) (tE Γ cs ts W m (e2 op2 f g)) :=
  PE.imp (pe_op ho ha hb) fun _ _ _ h => core2R so (fun _ _ _ h => h) (fun _ _ _ h => h) h
theorem me_un {o : UnaryOp} (ho : UnR X (unaryOp o) r1) (so : So1 Γ m r1 op1) (ha : PE X a (tE Γ cs ts W .root f)) : PE X (.UnaryOp o a pos) (tE Γ cs ts W m (e1 op1 f)) :=
  PE.imp (pe_un ho ha) fun _ _ _ h => core1 so (fun _ _ _ h => h) h
theorem me_ix (ho : IxR X r2) (so : So2 Γ m r2 op2) (ha : PE X a (tE Γ cs ts W .full f)) (hb : PE X b (tE Γ cs ts W .root g)) (hs : PlainIx b) : PE X (.Subscript a b pos) (tE Γ cs ts W m (e2 op2 f g)) :=
  PE.imp (pe_ix ho ha hb hs) fun _ _ _ h => core2 so (fun _ _ _ h => h) (fun _ _ _ h => h) h
theorem me_ixR (ho : IxR X r2) (so : So2 Γ m r2 op2) (ha : PE X a (tE Γ cs ts W .root f)) (hb : PE X b (tE Γ cs [] W .root g)) (hs : PlainIx b) : PE X (.Subscript a b pos) (tE Γ cs ts W m (e2 op2 f g)) :=
  PE.imp (pe_ix ho ha hb hs) fun _ _ _ h => core2R so (fun _ _ _ h => h) (fun _ _ _ h => h) h
theorem me_cmp {o : CmpOp} (ho : OpR X (compareOp o) r2) (so : So2 Γ m r2 op2) (ha : PE X a (tE Γ cs ts W .full f)) (hb : PE X b (tE Γ cs ts W .root g)) (hm : behindInMarks o b = false) : PE X (.Compare a [o] [b] pos) (tE Γ cs ts W m (e2 op2 f g)) :=
  PE.imp (pe_cmpR ho ha hb hm) fun _ _ _ h => core2 so (fun _ _ _ h => h) (fun _ _ _ h => h) h
theorem me_cmpR {o : CmpOp} (ho : OpR X (compareOp o) r2) (so : So2 Γ m r2 op2) (ha : PE X a (tE Γ cs ts W .root f)) (hb : PE X b (tE Γ cs [] W .root g)) (hm : behindInMarks o b = false) : PE X (.Compare a [o] [b] pos) (tE Γ cs ts W m (e2 op2 f g)) :=
  PE.imp (pe_cmpR ho ha hb hm) fun _ _ _ h => core2R so (fun _ _ _ h => h) (fun _ _ _ h => h) h
/-! ### tests -/
def FinT (Γ : Ga) (cs ts : List Nat) (W : WX) (σ : L2.St) (H G : Hp) (Q : Bool → Hp → Prop) : Option R → Prop
  | some (.ok (.bl b) ρ') => ∀ H' G', Rep Γ cs σ H' G' ρ' → Stp (T ts σ) H G H' G' → Q b H'
  | some (.ex x ρ') => ∀ c dx H' G', Rep Γ cs σ H' G' ρ' → Stp (T ts σ) H G H' G' → Dx Γ H' G' c dx x → W c dx σ H'
  | _ => False
def tT (Γ : Ga) (cs ts : List Nat) (W : WX) (f : E) : TT := fun σ H Q => ∃ G ρ, Rep Γ cs σ H G ρ ∧ FinT Γ cs ts W σ H G Q (f ρ)
theorem FinT.fin {Q : Bool → Hp → Prop} (h : FinT Γ cs ts W σ H G Q r) : Fin Γ cs ts W .full σ H G (fun x H1 => ∃ c, x = .bl c ∧ Q c H1) r := by
  rcases r with _ | ⟨d, ρ'⟩ | ⟨x, ρ'⟩
  · exact h
  · cases d with
    | bl b =>
      intro v H' G' rep st rm
      cases (show Dt Γ G' v (.bl b) from rm)
      exact ⟨b, rfl, h H' G' rep st⟩
    | _ => exact (show False from h).elim
  · exact h
theorem tT.te {Q : Bool → Hp → Prop} (h : tT Γ cs ts W f σ H Q) : tE Γ cs ts W .full f σ H (fun x H1 => ∃ c, x = .bl c ∧ Q c H1) := let ⟨G, ρ, rep, fin⟩ := h; ⟨G, ρ, rep, fin.fin⟩
theorem mt_val {e : Expr} (h : PE X e (tE Γ cs ts W .full f)) (he : ∀ whole, isTrue e X.env whole = (do let v ← whole; standAt e.pos; holding [v] (truthy v)) := by intro _; rfl) : PT X e (tT Γ cs ts W f) :=
  PT.imp (pt_val h he) fun _ _ _ h => h.te
theorem mt_cmp {o : CmpOp} (ho : OpR X (compareOp o) r2) (so : So2 Γ .full r2 op2) (ha : PE X a (tE Γ cs ts W .full f)) (hb : PE X b (tE Γ cs ts W .root g)) (hm : behindInMarks o b = false) : PT X (.Compare a [o] [b] pos) (tT Γ cs ts W (e2 op2 f g)) :=
  PT.imp (pt_cmpR ho ha hb hm) fun _ _ _ h => core2 so (fun _ _ _ h => h) (fun _ _ _ h => h) h.te
theorem mt_cmpR {o : CmpOp} (ho : OpR X (compareOp o) r2) (so : So2 Γ .full r2 op2) (ha : PE X a (tE Γ cs ts W .root f)) (hb : PE X b (tE Γ cs [] W .root g)) (hm : behindInMarks o b = false) : PT X (.Compare a [o] [b] pos) (tT Γ cs ts W (e2 op2 f g)) :=
  PT.imp (pt_cmpR ho ha hb hm) fun _ _ _ h => core2R so (fun _ _ _ h => h) (fun _ _ _ h => h) h.te
theorem FinT.step {Q : Bool → Hp → Prop} (h : FinT Γ cs ts W σ H G Q r) (s : Stp (T ts σ) H G H1 G1) : FinT Γ cs ts W σ H1 G1 Q r := by
  rcases r with _ | ⟨d, ρ'⟩ | ⟨x, ρ'⟩
  · exact h
  · cases d with
    | bl b => exact fun H' G' rep st => h H' G' rep (s.tr st)
    | _ => exact (show False from h).elim
  · exact fun c dx H' G' rep st q => h c dx H' G' rep (s.tr st) q
/-- a test, then what hangs on it -/
def eIf (t f g : E) : E := fun ρ => eBind (t ρ) fun d ρ1 => match d with
  | .bl true => f ρ1
  | .bl false => g ρ1
  | _ => none
theorem finT_bind {k : Bool → Env → Option R} {Q1 : Bool → Hp → Prop} (fin : Fin Γ cs ts W m σ H G Q (eBind r fun d ρ1 => match d with
  | .bl b => k b ρ1
  | _ => none))
    (hk : ∀ b ρ1 H1 G1, Rep Γ cs σ H1 G1 ρ1 → Stp (T ts σ) H G H1 G1 → Fin Γ cs ts W m σ H G Q (k b ρ1) → Q1 b H1) : FinT Γ cs ts W σ H G Q1 r := by
  rcases r with _ | ⟨d, ρ'⟩ | ⟨x, ρ'⟩
  · exact fin
  · cases d with
    | bl b => exact fun H' G' rep st => hk b ρ' H' G' rep st fin
    | _ => exact (show False from fin).elim
  · exact fin
theorem bool_split {k1 k2 : Env → Option R} : (fun (d : D) (ρ1 : Env) => match d with
    | .bl true => k1 ρ1
    | .bl false => k2 ρ1
    | _ => none) = fun d ρ1 => match d with
    | .bl b => (fun b ρ1 => if b = true then k1 ρ1 else k2 ρ1) b ρ1
    | _ => none := by
  funext d ρ1
  cases d with
  | bl b => cases b <;> rfl
  | _ => rfl
theorem me_if {c : Expr} {t : E} (hc : PT X c (tT Γ cs ts W t)) (ha : PE X a (tE Γ cs ts W m f)) (hb : PE X b (tE Γ cs ts W m g)) : PE X (.IfExp c a b pos) (tE Γ cs ts W m (eIf t f g)) :=
  PE.imp (pe_ifExp hc ha hb) fun σ H Q ⟨G, ρ, rep, fin⟩ => by
    unfold eIf at fin
    rw [bool_split] at fin
    refine ⟨G, ρ, rep, finT_bind (k := fun b ρ1 => if b = true then f ρ1 else g ρ1) fin fun b ρ1 H1 G1 rep1 st1 fin1 => ?_⟩
    cases b with
    | true => rw [if_pos rfl] at fin1 ⊢; exact ⟨G1, ρ1, rep1, fin1.step st1⟩
    | false => rw [if_neg Bool.false_ne_true] at fin1 ⊢; exact ⟨G1, ρ1, rep1, fin1.step st1⟩
def eNot (f : E) : E := fun ρ => eBind (f ρ) fun d ρ1 => match d with
  | .bl b => some (.ok (.bl (!b)) ρ1)
  | _ => none
def eAnd (f g : E) : E := fun ρ => eBind (f ρ) fun d ρ1 => match d with
  | .bl true => g ρ1
  | .bl false => some (.ok (.bl false) ρ1)
  | _ => none
def eOr (f g : E) : E := fun ρ => eBind (f ρ) fun d ρ1 => match d with
  | .bl true => some (.ok (.bl true) ρ1)
  | .bl false => g ρ1
  | _ => none
theorem finT2 {k : Bool → Env → Option R} {Q Q1 : Bool → Hp → Prop} (fin : FinT Γ cs ts W σ H G Q (eBind r fun d ρ1 => match d with
  | .bl b => k b ρ1
  | _ => none))
    (hk : ∀ b ρ1 H1 G1, Rep Γ cs σ H1 G1 ρ1 → Stp (T ts σ) H G H1 G1 → FinT Γ cs ts W σ H G Q (k b ρ1) → Q1 b H1) : FinT Γ cs ts W σ H G Q1 r := by
  rcases r with _ | ⟨d, ρ'⟩ | ⟨x, ρ'⟩
  · exact fin
  · cases d with
    | bl b => exact fun H' G' rep st => hk b ρ' H' G' rep st fin
    | _ => exact (show False from fin).elim
  · exact fin
theorem mt_not (hf : PT X a (tT Γ cs ts W f)) : PT X (.UnaryOp .Not a pos) (tT Γ cs ts W (eNot f)) :=
  PT.imp (pt_not hf) fun σ H Q ⟨G, ρ, rep, fin⟩ => ⟨G, ρ, rep, finT2 (k := fun b ρ1 => some (.ok (.bl (!b)) ρ1)) fin fun b ρ1 H1 G1 rep1 st1 fin1 => fin1 H1 G1 rep1 st1⟩
variable {rest : List Expr}
theorem mw_and1 (hf : PT X a (tT Γ cs ts W f)) : PW X (.BoolOp .And [a] pos) (tT Γ cs ts W f) := pw_and1 hf
theorem mw_or1 (hf : PT X a (tT Γ cs ts W f)) : PW X (.BoolOp .Or [a] pos) (tT Γ cs ts W f) := pw_or1 hf
theorem mw_and (hf : PT X a (tT Γ cs ts W f)) (hg : PW X (.BoolOp .And (b :: rest) pos) (tT Γ cs ts W g)) : PW X (.BoolOp .And (a :: b :: rest) pos) (tT Γ cs ts W (eAnd f g)) :=
  PW.imp (pw_and hf hg) fun σ H Q ⟨G, ρ, rep, fin⟩ => by
    unfold eAnd at fin
    rw [bool_split] at fin
    refine ⟨G, ρ, rep, finT2 (k := fun b ρ1 => if b = true then g ρ1 else some (.ok (.bl false) ρ1)) fin fun b ρ1 H1 G1 rep1 st1 fin1 => ?_⟩
    cases b with
    | true => rw [if_pos rfl] at fin1 ⊢; exact ⟨G1, ρ1, rep1, fin1.step st1⟩
    | false => rw [if_neg Bool.false_ne_true] at fin1 ⊢; exact fin1 H1 G1 rep1 st1
theorem mw_or (hf : PT X a (tT Γ cs ts W f)) (hg : PW X (.BoolOp .Or (b :: rest) pos) (tT Γ cs ts W g)) : PW X (.BoolOp .Or (a :: b :: rest) pos) (tT Γ cs ts W (eOr f g)) :=
  PW.imp (pw_or hf hg) fun σ H Q ⟨G, ρ, rep, fin⟩ => by
    unfold eOr at fin
    rw [bool_split] at fin
    refine ⟨G, ρ, rep, finT2 (k := fun b ρ1 => if b = true then some (.ok (.bl true) ρ1) else g ρ1) fin fun b ρ1 H1 G1 rep1 st1 fin1 => ?_⟩
    cases b with
    | true => rw [if_pos rfl] at fin1 ⊢; exact fin1 H1 G1 rep1 st1
    | false => rw [if_neg Bool.false_ne_true] at fin1 ⊢; exact ⟨G1, ρ1, rep1, fin1.step st1⟩
/-! ### and, or, not as values -/
theorem fin_bl {k : Bool → Env → Option R} {Q1 : VK} (fin : Fin Γ cs ts W m σ H G Q (eBind r fun d ρ1 => match d with
  | .bl b => k b ρ1
  | _ => none))
    (hk : ∀ b ρ1 H1 G1, Rep Γ cs σ H1 G1 ρ1 → Stp (T ts σ) H G H1 G1 → Fin Γ cs ts W m σ H G Q (k b ρ1) → Q1 (.bl b) H1) : Fin Γ cs ts W .full σ H G Q1 r := by
  rcases r with _ | ⟨d, ρ'⟩ | ⟨x, ρ'⟩
  · exact fin
  · cases d with
    | bl b =>
      intro v H' G' rep st rm
      cases (show Dt Γ G' v (.bl b) from rm)
      exact hk b ρ' H' G' rep st fin
    | _ => exact (show False from fin).elim
  · exact fin
theorem me_not (hf : PE X a (tE Γ cs ts W .full f)) : PE X (.UnaryOp .Not a pos) (tE Γ cs ts W .full (eNot f)) :=
  PE.imp (pe_not hf) fun σ H Q ⟨G, ρ, rep, fin⟩ => ⟨G, ρ, rep, fin_bl (k := fun b ρ1 => some (.ok (.bl (!b)) ρ1)) fin fun b ρ1 H1 G1 rep1 st1 fin1 => ⟨b, rfl, fin1 _ H1 G1 rep1 st1 (.bl _)⟩⟩
theorem me_one {o : BoolOp} (hf : PE X a (tE Γ cs ts W .full f)) : PE X (.BoolOp o [a] pos) (tE Γ cs ts W .full f) := pe_one hf
theorem me_and (hf : PE X a (tE Γ cs ts W .full f)) (hg : PE X (.BoolOp .And (b :: rest) pos) (tE Γ cs ts W .full g)) : PE X (.BoolOp .And (a :: b :: rest) pos) (tE Γ cs ts W .full (eAnd f g)) :=
  PE.imp (pe_and hf hg) fun σ H Q ⟨G, ρ, rep, fin⟩ => by
    unfold eAnd at fin
    rw [bool_split] at fin
    refine ⟨G, ρ, rep, fin_bl (k := fun b ρ1 => if b = true then g ρ1 else some (.ok (.bl false) ρ1)) fin fun b ρ1 H1 G1 rep1 st1 fin1 => ⟨b, rfl, ?_⟩⟩
    cases b with
    | true => rw [if_pos rfl] at fin1 ⊢; exact ⟨G1, ρ1, rep1, fin1.step st1⟩
    | false => rw [if_neg Bool.false_ne_true] at fin1 ⊢; exact fin1 _ H1 G1 rep1 st1 (.bl _)
theorem me_or (hf : PE X a (tE Γ cs ts W .full f)) (hg : PE X (.BoolOp .Or (b :: rest) pos) (tE Γ cs ts W .full g)) : PE X (.BoolOp .Or (a :: b :: rest) pos) (tE Γ cs ts W .full (eOr f g)) :=
  PE.imp (pe_or hf hg) fun σ H Q ⟨G, ρ, rep, fin⟩ => by
    unfold eOr at fin
    rw [bool_split] at fin
    refine ⟨G, ρ, rep, fin_bl (k := fun b ρ1 => if b = true then some (.ok (.bl true) ρ1) else g ρ1) fin fun b ρ1 H1 G1 rep1 st1 fin1 => ⟨b, rfl, ?_⟩⟩
    cases b with
    | true => rw [if_pos rfl] at fin1 ⊢; exact fin1 _ H1 G1 rep1 st1 (.bl _)
    | false => rw [if_neg Bool.false_ne_true] at fin1 ⊢; exact ⟨G1, ρ1, rep1, fin1.step st1⟩
end
end
end Mi

set_option Elab.async false
set_option linter.all false
set_option maxRecDepth 100000
set_option maxHeartbeats 4000000
namespace Mi
open PySem PySem.Spec PyProof.Rows L2
/-! ### statements -/
/-- fx: the cells that came as arguments; lc: the cells at the head of the loop; xc: those where exceptions land; rm: what is handed back -/
structure Sx where
  fx : List Nat
  lc : List Nat
  xc : List Nat
  rm : Md
  W : WX
/-- of a def's body: what it hands on, what it lets out -/
def fxOf (cs : List Nat) (rm : Md) (E : XK) : Sx := ⟨cs, [], cs, rm, fun c d _ H => E c d H⟩
inductive Out | nx (ρ : Env) | rt (d : D) (ρ : Env) | bk (ρ : Env) | ct (ρ : Env) | ex (x : D) (ρ : Env)
abbrev SM := Env → Option Out
structure StS (fx cs cs' : List Nat) (σ : L2.St) (H G : Hp) (σ' : L2.St) (H' G' : Hp) : Prop where
  st : Stp (T cs σ) H G H' G'
  new : ∀ a, T cs' σ' a → T cs σ a ∨ H a = none
  fix : ∀ i ∈ fx, σ'[i]? = σ[i]?
theorem StS.trans {fx cs c1 c2 : List Nat} {σ σ1 σ2 : L2.St} {H G H1 G1 H2 G2 : Hp} (a : StS fx cs c1 σ H G σ1 H1 G1) (b : StS fx c1 c2 σ1 H1 G1 σ2 H2 G2) : StS fx cs c2 σ H G σ2 H2 G2 where
  st := a.st.trans b.st a.new
  new := fun x h => (b.new x h).elim (a.new x) fun z => .inr (by
    cases e : H x with
    | none => rfl
    | some u => exact absurd z (a.st.t x (by rw [e]; intro q; cases q)))
  fix := fun i hi => (b.fix i hi).trans (a.fix i hi)
theorem StS.of {fx cs : List Nat} {σ : L2.St} {H G H' G' : Hp} (s : Stp (T cs σ) H G H' G') : StS fx cs cs σ H G σ H' G' := ⟨s, fun _ h => .inl h, fun _ _ => rfl⟩
theorem StS.refl {fx cs : List Nat} {σ : L2.St} {H G : Hp} : StS fx cs cs σ H G σ H G := .of Stp.refl
/-- giving cells up, as a step -/
theorem Rep.frz {Γ : Ga} {fx cs cs' : List Nat} {σ : L2.St} {H G : Hp} {ρ : Env} (r : Rep Γ cs σ H G ρ) (hs : ∀ i ∈ cs', i ∈ cs) : ∃ G', Rep Γ cs' σ H G' ρ ∧ Same G G' ∧ StS fx cs cs' σ H G σ H G' := by
  obtain ⟨G', r', s, n⟩ := r.freeze hs
  exact ⟨G', r', s, ⟨s, fun _ _ h _ => h, fun _ h => h, fun a h _ nt => n a h nt⟩, fun a ⟨i, hi, e⟩ => .inl ⟨i, hs i hi, e⟩, fun _ _ => rfl⟩
def FinS (Γ : Ga) (S : Sx) (cs cs' : List Nat) (D : Ends) (σ : L2.St) (H G : Hp) : Option Out → Prop
  | none => False
  | some (.nx ρ') => ∀ σ' H' G', Rep Γ cs' σ' H' G' ρ' → StS S.fx cs cs' σ H G σ' H' G' → D.nx σ' H'
  | some (.bk ρ') => ∀ σ' H' G', Rep Γ S.lc σ' H' G' ρ' → StS S.fx cs S.lc σ H G σ' H' G' → D.bk σ' H'
  | some (.ct ρ') => ∀ σ' H' G', Rep Γ S.lc σ' H' G' ρ' → StS S.fx cs S.lc σ H G σ' H' G' → D.ct σ' H'
  | some (.rt d ρ') => ∀ v σ' H' G', Rep Γ S.fx σ' H' G' ρ' → StS S.fx cs S.fx σ H G σ' H' G' → RM Γ S.rm H H' G' v d → D.rt v H'
  | some (.ex x ρ') => ∀ c dx σ' H' G', Rep Γ S.xc σ' H' G' ρ' → StS S.fx cs S.xc σ H G σ' H' G' → Dx Γ H' G' c dx x → S.W c dx σ' H'
def tS (Γ : Ga) (S : Sx) (cs cs' : List Nat) (F : SM) : TS := fun D σ H => ∃ G ρ, Rep Γ cs σ H G ρ ∧ FinS Γ S cs cs' D σ H G (F ρ)
def sBind (r : Option R) (k : D → Env → Option Out) : Option Out := match r with
  | none => none
  | some (.ok d ρ) => k d ρ
  | some (.ex x ρ) => some (.ex x ρ)
@[simp] theorem sBind_ok {d : D} {ρ : Env} {k : D → Env → Option Out} : sBind (some (.ok d ρ)) k = k d ρ := rfl
@[simp] theorem sBind_ex {d : D} {ρ : Env} {k : D → Env → Option Out} : sBind (some (.ex d ρ)) k = some (.ex d ρ) := rfl
@[simp] theorem sBind_none {k : D → Env → Option Out} : sBind none k = none := rfl
theorem Dx.same {Γ : Ga} {H G G' : Hp} {c : Value} {dx : Option Addr} {x : D} (h : Dx Γ H G c dx x) (s : Same G G') : Dx Γ H G' c dx x := by
  obtain ⟨n, fs, h1, h2, h3⟩ := h
  refine ⟨n, fs, h1, h2, h3.imp (fun h => h) fun ⟨a, gs, q1, q2, q3⟩ => ⟨a, gs, q1, q2, q3.same s⟩⟩
theorem RM.frz {Γ : Ga} {m : Md} (hm : m ≠ .root) {H0 H G G' : Hp} {v : V} {d : D} {T0 : Addr → Prop} (h : RM Γ m H0 H G v d) (s : Same G G') (n : ∀ a, G a = none → ¬ T0 a → G' a = none) (hT : ∀ a, H0 a = none → ¬ T0 a) : RM Γ m H0 H G' v d := by
  cases m with
  | full => exact Dt.same s h
  | root => exact absurd rfl hm
  | own =>
    obtain ⟨a, o, h1, h2, h3, h4, h5⟩ := h
    exact ⟨a, o, h1, h2, h3, n a h4 (hT a h2), h5.same s⟩
section
variable {Γ : Ga} {S : Sx} {cs c1 cs' : List Nat} {m : Md} {σ σ1 : L2.St} {H G H1 G1 : Hp} {ρ : Env} {D0 : Ends} {Q1 : VK} {f g : E} {r : Option R} {q : Option Out}
theorem FinS.step (h : FinS Γ S cs cs' D0 σ H G q) (s : StS S.fx cs c1 σ H G σ1 H1 G1) : FinS Γ S c1 cs' D0 σ1 H1 G1 q := by
  rcases q with _ | ⟨ρ'⟩ | ⟨d, ρ'⟩ | ⟨ρ'⟩ | ⟨ρ'⟩ | ⟨x, ρ'⟩
  · exact h
  · exact fun σ' H' G' rep st => h σ' H' G' rep (s.trans st)
  · exact fun v σ' H' G' rep st rm => h v σ' H' G' rep (s.trans st) (rm.back s.st.t)
  · exact fun σ' H' G' rep st => h σ' H' G' rep (s.trans st)
  · exact fun σ' H' G' rep st => h σ' H' G' rep (s.trans st)
  · exact fun c dx σ' H' G' rep st e => h c dx σ' H' G' rep (s.trans st) e
theorem finS_bind {k : D → Env → Option Out} (hx : ∀ i ∈ S.xc, i ∈ cs) (fin : FinS Γ S cs cs' D0 σ H G (sBind r k))
    (hk : ∀ v d ρ1 H1 G1, Rep Γ cs σ H1 G1 ρ1 → Stp (T cs σ) H G H1 G1 → RM Γ m H H1 G1 v d → FinS Γ S cs cs' D0 σ H G (k d ρ1) → Q1 v H1) : Fin Γ cs cs S.W m σ H G Q1 r := by
  rcases r with _ | ⟨d, ρ'⟩ | ⟨x, ρ'⟩
  · exact fin
  · exact fun v H' G' rep st rm => hk v d ρ' H' G' rep st rm fin
  · intro c dx H' G' rep st e
    obtain ⟨G2, rep2, s2, st2⟩ := rep.frz (fx := S.fx) hx
    exact fin c dx σ H' G2 rep2 ((StS.of st).trans st2) (e.same s2)
theorem finST {k : Bool → Env → Option Out} {Q1 : Bool → Hp → Prop} (hx : ∀ i ∈ S.xc, i ∈ cs) (fin : FinS Γ S cs cs' D0 σ H G (sBind r fun d ρ1 => match d with
  | .bl b => k b ρ1
  | _ => none))
    (hk : ∀ b ρ1 H1 G1, Rep Γ cs σ H1 G1 ρ1 → Stp (T cs σ) H G H1 G1 → FinS Γ S cs cs' D0 σ H G (k b ρ1) → Q1 b H1) : FinT Γ cs cs S.W σ H G Q1 r := by
  rcases r with _ | ⟨d, ρ'⟩ | ⟨x, ρ'⟩
  · exact fin
  · cases d with
    | bl b => exact fun H' G' rep st => hk b ρ' H' G' rep st fin
    | _ => exact (show False from fin).elim
  · intro c dx H' G' rep st e
    obtain ⟨G2, rep2, s2, st2⟩ := rep.frz (fx := S.fx) hx
    exact fin c dx σ H' G2 rep2 ((StS.of st).trans st2) (e.same s2)
/-! ### blocks -/
def sNext : SM := fun ρ => some (.nx ρ)
def sSeq (F K : SM) : SM := fun ρ => match F ρ with
  | some (.nx ρ1) => K ρ1
  | r => r
variable {X : Cx} {st : Stmt} {rest : List Stmt} {F K : SM} {pos : Pos} {e : Expr}
theorem mss_nil : PSs X [] (tS Γ S cs cs sNext) := PSs.imp pss_nil fun D σ H ⟨G, ρ, rep, fin⟩ => fin σ H G rep StS.refl
theorem mss_one (h : PS X st (tS Γ S cs cs' F)) : PSs X [st] (tS Γ S cs cs' F) := pss_one h
theorem mss_cons (h1 : PS X st (tS Γ S cs c1 F)) (h2 : PSs X rest (tS Γ S c1 cs' K)) : PSs X (st :: rest) (tS Γ S cs cs' (sSeq F K)) :=
  PSs.imp (pss_cons h1 h2) fun D σ H ⟨G, ρ, rep, fin⟩ => by
    refine ⟨G, ρ, rep, ?_⟩
    unfold sSeq at fin
    generalize F ρ = q at fin ⊢
    rcases q with _ | ⟨ρ'⟩ | ⟨d, ρ'⟩ | ⟨ρ'⟩ | ⟨ρ'⟩ | ⟨x, ρ'⟩
    · exact fin
    · exact fun σ' H' G' rep' st' => ⟨G', ρ', rep', FinS.step fin st'⟩
    · exact fin
    · exact fin
    · exact fin
    · exact fin
/-- cells given up ahead of a block; behind a statement -/
theorem mss_frz (h : PSs X rest (tS Γ S c1 cs' K)) (hs : ∀ i ∈ c1, i ∈ cs := by first | decide | (dsimp only [fxOf]; decide)) : PSs X rest (tS Γ S cs cs' K) :=
  PSs.imp h fun D σ H ⟨G, ρ, rep, fin⟩ => by
    obtain ⟨G2, rep2, _, st2⟩ := rep.frz (fx := S.fx) hs
    exact ⟨G2, ρ, rep2, fin.step st2⟩
theorem mss_end (h : PSs X rest (tS Γ S cs c1 K)) (hs : ∀ i ∈ cs', i ∈ c1 := by first | decide | (dsimp only [fxOf]; decide)) : PSs X rest (tS Γ S cs cs' K) :=
  PSs.imp h fun D σ H ⟨G, ρ, rep, fin⟩ => by
    refine ⟨G, ρ, rep, ?_⟩
    generalize K ρ = q at fin ⊢
    rcases q with _ | ⟨ρ'⟩ | ⟨d, ρ'⟩ | ⟨ρ'⟩ | ⟨ρ'⟩ | ⟨x, ρ'⟩
    · exact fin
    · intro σ' H' G' rep' st'
      obtain ⟨G2, rep2, _, st2⟩ := rep'.frz (fx := S.fx) hs
      exact fin σ' H' G2 rep2 (st'.trans st2)
    · exact fin
    · exact fin
    · exact fin
    · exact fin
/-- a block that never comes to its end -/
def NoNx (K : SM) : Prop := ∀ ρ ρ', K ρ ≠ some (.nx ρ')
theorem mss_stop (h : PSs X rest (tS Γ S cs c1 K)) (hn : NoNx K) : PSs X rest (tS Γ S cs cs' K) :=
  PSs.imp h fun D σ H ⟨G, ρ, rep, fin⟩ => by
    refine ⟨G, ρ, rep, ?_⟩
    have hn' := hn ρ
    generalize K ρ = q at fin hn' ⊢
    rcases q with _ | ⟨ρ'⟩ | ⟨d, ρ'⟩ | ⟨ρ'⟩ | ⟨ρ'⟩ | ⟨x, ρ'⟩
    · exact fin
    · exact absurd rfl (hn' ρ')
    · exact fin
    · exact fin
    · exact fin
    · exact fin
/-! ### small statements -/
def sPass : SM := sNext
def sBrk : SM := fun ρ => some (.bk ρ)
def sCt : SM := fun ρ => some (.ct ρ)
theorem ms_pass : PS X (.Pass pos) (tS Γ S cs cs sNext) := PS.imp ps_pass fun D σ H ⟨G, ρ, rep, fin⟩ => fin σ H G rep StS.refl
theorem ms_brk (hl : ∀ i ∈ S.lc, i ∈ cs := by first | decide | (dsimp only [fxOf]; decide)) : PS X (.Break pos) (tS Γ S cs cs' sBrk) := PS.imp ps_break fun D σ H ⟨G, ρ, rep, fin⟩ => by
  obtain ⟨G2, rep2, _, st2⟩ := rep.frz (fx := S.fx) hl
  exact fin σ H G2 rep2 st2
theorem ms_ct (hl : ∀ i ∈ S.lc, i ∈ cs := by first | decide | (dsimp only [fxOf]; decide)) : PS X (.Continue pos) (tS Γ S cs cs' sCt) := PS.imp ps_continue fun D σ H ⟨G, ρ, rep, fin⟩ => by
  obtain ⟨G2, rep2, _, st2⟩ := rep.frz (fx := S.fx) hl
  exact fin σ H G2 rep2 st2
def sExpr (f : E) : SM := fun ρ => sBind (f ρ) fun _ ρ1 => some (.nx ρ1)
theorem ms_expr (he : PE X e (tE Γ cs cs S.W m f)) (hx : ∀ i ∈ S.xc, i ∈ cs := by first | decide | (dsimp only [fxOf]; decide)) (hs : swapsWith e none pos.line X.env = pure false := by rfl) : PS X (.Expr e pos) (tS Γ S cs cs (sExpr f)) :=
  PS.imp (ps_expr he hs) fun D σ H ⟨G, ρ, rep, fin⟩ => ⟨G, ρ, rep, finS_bind hx fin fun v d ρ1 H1 G1 rep1 st1 _ fin1 => fin1 σ H1 G1 rep1 (.of st1)⟩
def sRet (f : E) : SM := fun ρ => sBind (f ρ) fun d ρ1 => some (.rt d ρ1)
theorem ms_ret (he : PE X e (tE Γ cs cs S.W S.rm f)) (hx : ∀ i ∈ S.xc, i ∈ cs := by first | decide | (dsimp only [fxOf]; decide)) (hf : ∀ i ∈ S.fx, i ∈ cs := by first | decide | (dsimp only [fxOf]; decide)) (hm : S.rm ≠ .root := by first | decide | (dsimp only [fxOf]; decide)) : PS X (.Return (some e) pos) (tS Γ S cs cs' (sRet f)) :=
  PS.imp (ps_ret he) fun D σ H ⟨G, ρ, rep, fin⟩ => ⟨G, ρ, rep, finS_bind hx fin fun v d ρ1 H1 G1 rep1 st1 rm fin1 => by
    obtain ⟨G2, rep2, s2, n2⟩ := rep1.freeze hf
    have st2 : StS S.fx cs S.fx σ H1 G1 σ H1 G2 := ⟨⟨s2, fun _ _ h _ => h, fun _ h => h, fun a h _ nt => n2 a h nt⟩, fun a ⟨i, hi, q⟩ => .inl ⟨i, hf i hi, q⟩, fun _ _ => rfl⟩
    exact fin1 v σ H1 G2 rep2 ((StS.of st1).trans st2) (rm.frz hm s2 n2 fun a h => rep.Tn h)⟩
def sRetN : SM := fun ρ => some (.rt .non ρ)
theorem ms_retN (hm : S.rm = .full) (hf : ∀ i ∈ S.fx, i ∈ cs := by first | decide | (dsimp only [fxOf]; decide)) : PS X (.Return none pos) (tS Γ S cs cs' sRetN) :=
  PS.imp ps_retN fun D σ H ⟨G, ρ, rep, fin⟩ => by
    obtain ⟨G2, rep2, s2, st2⟩ := rep.frz (fx := S.fx) hf
    refine fin .non σ H G2 rep2 st2 ?_
    rw [hm]
    exact Dt.non
def sIf (t : E) (F K : SM) : SM := fun ρ => sBind (t ρ) fun d ρ1 => match d with
  | .bl true => F ρ1
  | .bl false => K ρ1
  | _ => none
theorem bool_splitS {k1 k2 : Env → Option Out} : (fun (d : D) (ρ1 : Env) => match d with
    | .bl true => k1 ρ1
    | .bl false => k2 ρ1
    | _ => none) = fun d ρ1 => match d with
    | .bl b => (fun b ρ1 => if b = true then k1 ρ1 else k2 ρ1) b ρ1
    | _ => none := by
  funext d ρ1
  cases d with
  | bl b => cases b <;> rfl
  | _ => rfl
theorem ms_if {c : Expr} {a b : List Stmt} {t : E} (hc : PT X c (tT Γ cs cs S.W t)) (ha : PSs X a (tS Γ S cs cs' F)) (hb : PSs X b (tS Γ S cs cs' K)) (hx : ∀ i ∈ S.xc, i ∈ cs := by first | decide | (dsimp only [fxOf]; decide)) : PS X (.If c a b pos) (tS Γ S cs cs' (sIf t F K)) :=
  PS.imp (ps_if hc ha hb) fun D σ H ⟨G, ρ, rep, fin⟩ => by
    unfold sIf at fin
    rw [bool_splitS] at fin
    refine ⟨G, ρ, rep, finST (k := fun b ρ1 => if b = true then F ρ1 else K ρ1) hx fin fun b ρ1 H1 G1 rep1 st1 fin1 => ?_⟩
    cases b with
    | true => rw [if_pos rfl] at fin1 ⊢; exact ⟨G1, ρ1, rep1, fin1.step (.of st1)⟩
    | false => rw [if_neg Bool.false_ne_true] at fin1 ⊢; exact ⟨G1, ρ1, rep1, fin1.step (.of st1)⟩
/-! ### stores -/
theorem ne_mem {l : List Nat} {i j : Nat} (hi : i ∉ l) (hj : j ∈ l) : i ≠ j := fun z => hi (z ▸ hj)
theorem T.set {i : Nat} (hi : i ∉ cs) {v : V} {a : Addr} : T cs (σ.set i (some v)) a ↔ T cs σ a := by
  constructor
  · rintro ⟨j, hj, h⟩
    rw [List.getElem?_set_ne (ne_mem hi hj)] at h
    exact ⟨j, hj, h⟩
  · rintro ⟨j, hj, h⟩
    refine ⟨j, hj, ?_⟩
    rw [List.getElem?_set_ne (ne_mem hi hj)]
    exact h
theorem Rep.set (rep : Rep Γ cs σ H G ρ) {i : Nat} (hi : i ∉ cs) {v : V} {d : D} (h : Dt Γ G v d) : Rep Γ cs (σ.set i (some v)) H G (ρ.set i (some d)) := by
  have hl := rep.len
  refine ⟨by rw [List.length_set, List.length_set]; exact hl, rep.sub, fun j q => ?_, fun j d' hj q => ?_, fun j d' hj q => ?_, fun j k a hj hk q1 q2 => ?_⟩
  · by_cases e : i = j
    · subst e
      by_cases hlt : i < ρ.length
      · rw [List.getElem?_set_self hlt] at q; cases q
      · rw [List.getElem?_eq_none (by rw [List.length_set]; omega)] at q; cases q
    · rw [List.getElem?_set_ne e] at q ⊢
      exact rep.un j q
  · by_cases e : i = j
    · subst e
      have hlt : i < ρ.length := by have := (List.getElem?_eq_some_iff.mp q).1; rw [List.length_set] at this; exact this
      rw [List.getElem?_set_self hlt] at q
      cases q
      exact ⟨v, List.getElem?_set_self (by omega), h⟩
    · rw [List.getElem?_set_ne e] at q ⊢
      exact rep.dat j d' hj q
  · have e : i ≠ j := ne_mem hi hj
    rw [List.getElem?_set_ne e] at q ⊢
    exact rep.own j d' hj q
  · rw [List.getElem?_set_ne (ne_mem hi hj)] at q1
    rw [List.getElem?_set_ne (ne_mem hi hk)] at q2
    exact rep.sep j k a hj hk q1 q2
theorem StS.set {fx : List Nat} {i : Nat} (hi : i ∉ cs) (hf : i ∉ fx) {v : V} (s : Stp (T cs σ) H G H1 G1) : StS fx cs cs σ H G (σ.set i (some v)) H1 G1 :=
  ⟨s, fun a h => .inl ((T.set hi).mp h), fun j hj => List.getElem?_set_ne (ne_mem hf hj)⟩
def sSet (i : Nat) (f : E) : SM := fun ρ => sBind (f ρ) fun d ρ1 => some (.nx (ρ1.set i (some d)))
theorem ms_set0 {i : Nat} {te : TE} (h : PS X st (tAsg te (gName i))) (he : ∀ σ H Q, tE Γ cs cs S.W .full f σ H Q → te σ H Q) (hi : i ∉ cs) (hf : i ∉ S.fx) (hx : ∀ i ∈ S.xc, i ∈ cs) : PS X st (tS Γ S cs cs (sSet i f)) :=
  PS.imp h fun D σ H ⟨G, ρ, rep, fin⟩ => he σ H _ ⟨G, ρ, rep, finS_bind hx fin fun v d ρ1 H1 G1 rep1 st1 rm fin1 => fin1 _ H1 G1 (rep1.set hi rm) (.set hi hf st1)⟩
theorem ms_set {i : Nat} {x : Str} {pos' : Pos} (hN : X.N.Nodup) (hn : X.N[i]? = some x) (hl : Loc X.env.scope x) (he : PE X e (tE Γ cs cs S.W .full f)) (hi : i ∉ cs := by first | decide | (dsimp only [fxOf]; decide)) (hf : i ∉ S.fx := by first | decide | (dsimp only [fxOf]; decide)) (hx : ∀ i ∈ S.xc, i ∈ cs := by first | decide | (dsimp only [fxOf]; decide))
    (hs : swapsWith e (some (.Name x pos')) pos.line X.env = pure false := by rfl) (hfn : X.fn x = true ∨ X.env.scope.names.lookup x = some .local := by first | exact .inl rfl | exact .inr rfl | assumption) :
    PS X (.Assign [.Name x pos'] e pos) (tS Γ S cs cs (sSet i f)) := ms_set0 (ps_set hN hn hl he hs hfn) (fun _ _ _ h => h) hi hf hx
/-- a new cell -/
theorem Rep.setOwn (rep0 : Rep Γ cs σ H G ρ) {ρ1 : Env} (rep : Rep Γ cs σ H1 G1 ρ1) {i : Nat} (h1 : i ∈ cs') (h2 : ∀ j ∈ cs, j ∈ cs') (h3 : ∀ j ∈ cs', j = i ∨ j ∈ cs) {a : Addr} {o : HO} {d : D} (n0 : H a = none) (e1 : H1 a = some o) (n1 : G1 a = none) (ow : OwnO Γ G1 o d) :
    Rep Γ cs' (σ.set i (some (.ref a))) H1 G1 (ρ1.set i (some d)) := by
  have hl := rep.len
  have nT : ∀ j, j ∈ cs → σ[j]? ≠ some (some (.ref a)) := fun j hj z => (rep0.tc ⟨j, hj, z⟩).1 n0
  refine ⟨by rw [List.length_set, List.length_set]; exact hl, rep.sub, fun j q => ?_, fun j d' hj q => ?_, fun j d' hj q => ?_, fun j k b hj hk q1 q2 => ?_⟩
  · by_cases e : i = j
    · subst e
      by_cases hlt : i < ρ1.length
      · rw [List.getElem?_set_self hlt] at q; cases q
      · rw [List.getElem?_eq_none (by rw [List.length_set]; omega)] at q; cases q
    · rw [List.getElem?_set_ne e] at q ⊢
      exact rep.un j q
  · have e : i ≠ j := fun z => hj (z ▸ h1)
    rw [List.getElem?_set_ne e] at q ⊢
    exact rep.dat j d' (fun z => hj (h2 j z)) q
  · by_cases e : i = j
    · subst e
      have hlt : i < ρ1.length := by have := (List.getElem?_eq_some_iff.mp q).1; rw [List.length_set] at this; exact this
      rw [List.getElem?_set_self hlt] at q
      cases q
      exact ⟨a, o, List.getElem?_set_self (by omega), e1, n1, ow⟩
    · rw [List.getElem?_set_ne e] at q ⊢
      exact rep.own j d' ((h3 j hj).elim (fun z => absurd z.symm e) id) q
  · by_cases e : i = j
    · subst e
      by_cases e2 : i = k
      · exact e2
      · have hlt : i < σ.length := by have := (List.getElem?_eq_some_iff.mp q1).1; rw [List.length_set] at this; exact this
        rw [List.getElem?_set_self hlt] at q1
        rw [List.getElem?_set_ne e2] at q2
        cases q1
        exact absurd q2 (nT k ((h3 k hk).elim (fun z => absurd z.symm e2) id))
    · rw [List.getElem?_set_ne e] at q1
      by_cases e2 : i = k
      · subst e2
        have hlt : i < σ.length := by have := (List.getElem?_eq_some_iff.mp q2).1; rw [List.length_set] at this; exact this
        rw [List.getElem?_set_self hlt] at q2
        cases q2
        exact absurd q1 (nT j ((h3 j hj).elim (fun z => absurd z.symm e) id))
      · rw [List.getElem?_set_ne e2] at q2
        exact rep.sep j k b ((h3 j hj).elim (fun z => absurd z.symm e) id) ((h3 k hk).elim (fun z => absurd z.symm e2) id) q1 q2
theorem StS.setOwn {fx : List Nat} {i : Nat} (hf : i ∉ fx) (h3 : ∀ j ∈ cs', j = i ∨ j ∈ cs) {a : Addr} (n0 : H a = none) (s : Stp (T cs σ) H G H1 G1) : StS fx cs cs' σ H G (σ.set i (some (.ref a))) H1 G1 := by
  refine ⟨s, fun b ⟨j, hj, h⟩ => ?_, fun j hj => List.getElem?_set_ne (ne_mem hf hj)⟩
  by_cases e : i = j
  · subst e
    have hlt : i < σ.length := by have := (List.getElem?_eq_some_iff.mp h).1; rw [List.length_set] at this; exact this
    rw [List.getElem?_set_self hlt] at h
    cases h
    exact .inr n0
  · rw [List.getElem?_set_ne e] at h
    exact .inl ⟨j, (h3 j hj).elim (fun z => absurd z.symm e) id, h⟩
theorem ms_own0 {i : Nat} {te : TE} (h : PS X st (tAsg te (gName i))) (he : ∀ σ H Q, tE Γ cs cs S.W .own f σ H Q → te σ H Q) (h1 : i ∈ cs') (h2 : ∀ j ∈ cs, j ∈ cs') (h3 : ∀ j ∈ cs', j = i ∨ j ∈ cs) (hf : i ∉ S.fx) (hx : ∀ i ∈ S.xc, i ∈ cs) :
    PS X st (tS Γ S cs cs' (sSet i f)) :=
  PS.imp h fun D σ H ⟨G, ρ, rep, fin⟩ => he σ H _ ⟨G, ρ, rep, finS_bind hx fin fun v d ρ1 H1 G1 rep1 st1 rm fin1 => by
    obtain ⟨a, o, rfl, n0, e1, n1, ow⟩ := rm
    exact fin1 _ H1 G1 (rep.setOwn rep1 h1 h2 h3 n0 e1 n1 ow) (.setOwn hf h3 n0 st1)⟩
theorem ms_own {i : Nat} {x : Str} {pos' : Pos} (hN : X.N.Nodup) (hn : X.N[i]? = some x) (hl : Loc X.env.scope x) (he : PE X e (tE Γ cs cs S.W .own f)) (h1 : i ∈ cs' := by first | decide | (dsimp only [fxOf]; decide)) (h2 : ∀ j ∈ cs, j ∈ cs' := by first | decide | (dsimp only [fxOf]; decide)) (h3 : ∀ j ∈ cs', j = i ∨ j ∈ cs := by first | decide | (dsimp only [fxOf]; decide))
    (hf : i ∉ S.fx := by first | decide | (dsimp only [fxOf]; decide)) (hx : ∀ i ∈ S.xc, i ∈ cs := by first | decide | (dsimp only [fxOf]; decide)) (hs : swapsWith e (some (.Name x pos')) pos.line X.env = pure false := by rfl) (hfn : X.fn x = true ∨ X.env.scope.names.lookup x = some .local := by first | exact .inl rfl | exact .inr rfl | assumption) :
    PS X (.Assign [.Name x pos'] e pos) (tS Γ S cs cs' (sSet i f)) := ms_own0 (ps_set hN hn hl he hs hfn) (fun _ _ _ h => h) h1 h2 h3 hf hx
/-- name op= e -/
def sAug (i : Nat) (op : D → D → Option D) (f : E) : SM := fun ρ => sBind (eBind (eV i ρ) fun a ρ1 => eBind (f ρ1) fun b ρ2 => lift (op a b) ρ2) fun d ρ1 => some (.nx (ρ1.set i (some d)))
def addI : D → D → Option D
  | .int a, .int b => some (.int (a + b))
  | _, _ => none
def subI : D → D → Option D
  | .int a, .int b => some (.int (a - b))
  | _, _ => none
theorem dt_int {v : V} {i : Int} (h : Dt Γ G v (.int i)) : v = .int i := by cases h; rfl
theorem ms_aug {i : Nat} {x : Str} {pos' : Pos} {o : Operator} {fn : Int → Int → Int} {op : D → D → Option D} (hN : X.N.Nodup) (hn : X.N[i]? = some x) (hl : Loc X.env.scope x) (he : PE X e (tE Γ cs cs S.W .full f)) (ho : PIp X o (ipI fn))
    (hop : ∀ a b z, op a b = some z → ∃ p q, a = .int p ∧ b = .int q ∧ z = .int (fn p q)) (hi : i ∉ cs := by first | decide | (dsimp only [fxOf]; decide)) (hf : i ∉ S.fx := by first | decide | (dsimp only [fxOf]; decide)) (hx : ∀ i ∈ S.xc, i ∈ cs := by first | decide | (dsimp only [fxOf]; decide))
    (hfn : X.fn x = true ∨ X.env.scope.names.lookup x = some .local := by first | exact .inl rfl | exact .inr rfl | assumption) :
    PS X (.AugAssign (.Name x pos') o e pos) (tS Γ S cs cs (sAug i op f)) :=
  PS.imp (ps_aug hN hn hl he ho hfn) fun D0 σ H ⟨G, ρ, rep, fin⟩ => by
    unfold sAug eV at fin
    cases q : ρ[i]? with
    | none => rw [q] at fin; exact fin.elim
    | some y =>
      cases y with
      | none => rw [q] at fin; exact fin.elim
      | some d =>
        rw [q] at fin
        change FinS Γ S cs cs D0 σ H G (sBind (eBind (f ρ) fun b ρ2 => lift (op d b) ρ2) fun d ρ1 => some (.nx (ρ1.set i (some d)))) at fin
        obtain ⟨v, h1, h2⟩ := rep.dat i d hi q
        refine ⟨v, h1, G, ρ, rep, finS_bind (D0 := D0) (cs' := cs) (k := fun b ρ2 => sBind (lift (op d b) ρ2) fun d ρ1 => some (.nx (ρ1.set i (some d)))) hx ?_ fun u d2 ρ1 H1 G1 rep1 st1 rm fin1 => ?_⟩
        · generalize f ρ = r at fin
          rcases r with _ | ⟨d, ρ'⟩ | ⟨x, ρ'⟩ <;> exact fin
        · cases q2 : op d d2 with
          | none => rw [q2] at fin1; exact fin1.elim
          | some z =>
            rw [q2] at fin1
            obtain ⟨p, q', rfl, rfl, rfl⟩ := hop _ _ _ q2
            exact ⟨p, q', dt_int h2, dt_int rm, fin1 _ H1 G1 (rep1.set hi (.int _)) (.set hi hf st1)⟩
theorem addI_ok : ∀ a b z, addI a b = some z → ∃ p q, a = .int p ∧ b = .int q ∧ z = .int (p + q) := fun a b z h => by
  unfold addI at h
  split at h
  · exact ⟨_, _, rfl, rfl, (Option.some.inj h).symm⟩
  · cases h
theorem subI_ok : ∀ a b z, subI a b = some z → ∃ p q, a = .int p ∧ b = .int q ∧ z = .int (p - q) := fun a b z h => by
  unfold subI at h
  split at h
  · exact ⟨_, _, rfl, rfl, (Option.some.inj h).symm⟩
  · cases h
/-! ### targets -/
inductive Tg | nm (i : Nat) | tp (ts : List Tg)
mutual
def tgtD : Tg → D → Env → Option Env
  | .nm i, d, ρ => some (ρ.set i (some d))
  | .tp ts, .tup ds, ρ => tgtsD ts ds ρ
  | .tp _, _, _ => none
def tgtsD : List Tg → List D → Env → Option Env
  | [], [], ρ => some ρ
  | t :: ts, d :: ds, ρ => (tgtD t d ρ).bind fun ρ1 => tgtsD ts ds ρ1
  | _, _, _ => none
end
mutual
def Tg.sl : Tg → List Nat
  | .nm i => [i]
  | .tp ts => Tg.sls ts
def Tg.sls : List Tg → List Nat
  | [] => []
  | t :: ts => Tg.sl t ++ Tg.sls ts
end
/-- what a store to names leaves -/
def Stored (Γ : Ga) (fx cs : List Nat) (sl : List Nat) (σ : L2.St) (H G : Hp) (ρ' : Env) (σ' : L2.St) : Prop := Rep Γ cs σ' H G ρ' ∧ (∀ a, T cs σ' a → T cs σ a) ∧ (∀ i ∈ fx, σ'[i]? = σ[i]?) ∧ ∀ i, i ∉ sl → σ'[i]? = σ[i]?
def tG (Γ : Ga) (fx cs : List Nat) (t : Tg) : TG := fun v σ H Q => ∃ G d ρ ρ', Rep Γ cs σ H G ρ ∧ Dt Γ G v d ∧ tgtD t d ρ = some ρ' ∧ ∀ σ', Stored Γ fx cs t.sl σ H G ρ' σ' → Q σ' H
def tGs (Γ : Ga) (fx cs : List Nat) (ts : List Tg) : TGs := fun vs σ H Q => ∃ G ds ρ ρ', Rep Γ cs σ H G ρ ∧ Dts Γ G vs ds ∧ tgtsD ts ds ρ = some ρ' ∧ ∀ σ', Stored Γ fx cs (Tg.sls ts) σ H G ρ' σ' → Q σ' H
theorem PG.imp {e : Expr} {t t' : TG} (h : PG X e t) (k : ∀ v σ H Q, t' v σ H Q → t v σ H Q) : PG X e t' := ⟨fun pins s σ H v u Q I r hw => h.run pins s σ H v u Q I r (k v σ H Q hw)⟩
theorem PGs.imp {e : List Expr} {t t' : TGs} (h : PGs X e t) (k : ∀ v σ H Q, t' v σ H Q → t v σ H Q) : PGs X e t' := ⟨fun pins s σ H v u Q I r hw => h.run pins s σ H v u Q I r (k v σ H Q hw)⟩
variable {fx : List Nat}
theorem tg_nm {i : Nat} (hi : i ∉ cs) (hf : i ∉ fx) : ∀ v σ H Q, tG Γ fx cs (.nm i) v σ H Q → gName i v σ H Q := fun v σ H Q ⟨G, d, ρ, ρ', rep, h, e, q⟩ => by
  unfold tgtD at e
  cases e
  exact q _ ⟨rep.set hi h, fun a z => (T.set hi).mp z, fun j hj => List.getElem?_set_ne (ne_mem hf hj), fun j hj => List.getElem?_set_ne fun z => hj (by rw [z]; exact List.mem_singleton.mpr rfl)⟩
theorem mg_nm {e : Expr} {i : Nat} (h : PG X e (gName i)) (hi : i ∉ cs := by first | decide | (dsimp only [fxOf]; decide)) (hf : i ∉ fx := by first | decide | (dsimp only [fxOf]; decide)) : PG X e (tG Γ fx cs (.nm i)) := PG.imp h (tg_nm hi hf)
theorem tg_nil : ∀ v σ H Q, tGs Γ fx cs [] v σ H Q → gNil v σ H Q := fun v σ H Q ⟨G, ds, ρ, ρ', rep, h, e, q⟩ => by
  cases h with
  | nil =>
    unfold tgtsD at e
    cases e
    exact ⟨rfl, q _ ⟨rep, fun _ h => h, fun _ _ => rfl, fun _ _ => rfl⟩⟩
  | cons => cases e
theorem tg_cons {g : TG} {gs : TGs} {t : Tg} {ts : List Tg} (hg : ∀ v σ H Q, tG Γ fx cs t v σ H Q → g v σ H Q) (hgs : ∀ v σ H Q, tGs Γ fx cs ts v σ H Q → gs v σ H Q) : ∀ v σ H Q, tGs Γ fx cs (t :: ts) v σ H Q → gCons g gs v σ H Q :=
  fun v σ H Q ⟨G, ds, ρ, ρ', rep, h, e, q⟩ => by
    cases h with
    | nil => cases e
    | cons h r =>
      unfold tgtsD at e
      obtain ⟨ρ1, e1, e2⟩ := Option.bind_eq_some_iff.mp e
      refine ⟨_, _, rfl, hg _ _ _ _ ⟨G, _, ρ, ρ1, rep, h, e1, fun σ1 ⟨r1, t1, f1, o1⟩ => hgs _ _ _ _ ⟨G, _, ρ1, ρ', r1, r, e2, fun σ2 ⟨r2, t2, f2, o2⟩ => q σ2 ⟨r2, fun a z => t1 a (t2 a z), fun i hi => (f2 i hi).trans (f1 i hi), fun i hi => (o2 i fun z => hi (List.mem_append_right _ z)).trans (o1 i fun z => hi (List.mem_append_left _ z))⟩⟩⟩⟩
theorem tgts_len : ∀ {ts : List Tg} {ds : List D} {ρ ρ' : Env}, tgtsD ts ds ρ = some ρ' → ds.length = ts.length
  | [], [], _, _, _ => rfl
  | [], _ :: _, _, _, h => by cases h
  | _ :: _, [], _, _, h => by cases h
  | t :: ts, d :: ds, ρ, ρ', h => by
    unfold tgtsD at h
    obtain ⟨ρ1, _, e2⟩ := Option.bind_eq_some_iff.mp h
    show ds.length + 1 = ts.length + 1
    rw [tgts_len e2]
theorem tg_tp {n : Nat} {gs : TGs} {ts : List Tg} {K : PySem.W.Frag} (hK : Γ.K = K) (hn : ts.length = n) (hgs : ∀ v σ H Q, tGs Γ fx cs ts v σ H Q → gs v σ H Q) : ∀ v σ H Q, tG Γ fx cs (.tp ts) v σ H Q → gTup K n gs v σ H Q :=
  fun v σ H Q ⟨G, d, ρ, ρ', rep, h, e, q⟩ => by
    cases h with
    | tup h r =>
      unfold tgtD at e
      subst hK
      exact ⟨_, _, rfl, Same.sqT rep.sub h, by rw [r.len, tgts_len e, hn], hgs _ _ _ _ ⟨G, _, ρ, ρ', rep, r, e, q⟩⟩
    | _ => unfold tgtD at e; cases e
theorem mgs_nil : PGs X [] (tGs Γ fx cs []) := PGs.imp pgs_nil tg_nil
theorem mgs_cons {e : Expr} {es : List Expr} {t : Tg} {ts : List Tg} (h1 : PG X e (tG Γ fx cs t)) (h2 : PGs X es (tGs Γ fx cs ts)) (hs : (assignEach (e :: es) X.env).map (·.2) = assign e X.env :: (assignEach es X.env).map (·.2) := by rfl) : PGs X (e :: es) (tGs Γ fx cs (t :: ts)) :=
  PGs.imp (pgs_cons h1 h2 hs) (tg_cons (fun _ _ _ _ h => h) (fun _ _ _ _ h => h))
theorem mg_tp {es : List Expr} {k : Nat} {ts : List Tg} {n : Nat} (hc : X.calm = true) (hK : Γ.K = X.K) (h : PGs X es (tGs Γ fx cs ts)) (hl : ts.length = n) (hn : (assignEach es X.env).length = n := by rfl) (hst : (assignEach es X.env).findIdx? (·.1) = none := by rfl) :
    PG X (.Tuple es k pos) (tG Γ fx cs (.tp ts)) := PG.imp (pg_tup hc h hn hst) (tg_tp hK hl (fun _ _ _ _ h => h))
def sAsg (t : Tg) (f : E) : SM := fun ρ => sBind (f ρ) fun d ρ1 => (tgtD t d ρ1).map .nx
theorem StS.stored {ρ' : Env} {σ' : L2.St} (s : Stp (T cs σ) H G H1 G1) {sl : List Nat} (q : Stored Γ fx cs sl σ H1 G1 ρ' σ') : StS fx cs cs σ H G σ' H1 G1 := ⟨s, fun a h => .inl (q.2.1 a h), q.2.2.1⟩
theorem ms_asg {tg : Expr} {t : Tg} (he : PE X e (tE Γ cs cs S.W .full f)) (hg : PG X tg (tG Γ S.fx cs t)) (hx : ∀ i ∈ S.xc, i ∈ cs := by first | decide | (dsimp only [fxOf]; decide)) (hs : swapsWithSole [tg] e pos.line X.env = pure false := by rfl) (hw : swappedStores [tg] e X.env = pure none := by rfl)
    (h1 : (assignEach [tg] X.env).map (·.2) = [assign tg X.env] := by rfl) : PS X (.Assign [tg] e pos) (tS Γ S cs cs (sAsg t f)) :=
  PS.imp (ps_asg he hg hs hw h1) fun D σ H ⟨G, ρ, rep, fin⟩ => ⟨G, ρ, rep, finS_bind hx fin fun v d ρ1 H1 G1 rep1 st1 rm fin1 => by
    cases q : tgtD t d ρ1 with
    | none => rw [q] at fin1; exact fin1.elim
    | some ρ2 =>
      rw [q] at fin1
      exact ⟨G1, d, ρ1, ρ2, rep1, rm, q, fun σ' h => fin1 σ' H1 G1 h.1 (.stored st1 h)⟩⟩
/-! ### loops -/
/-- J walks the items: all it leans on stands in G (and, where the items lie in a cell, at its root) -/
structure WalkD (Γ : Ga) (J : It) (items : List D) (G : Hp) (ro : Option (Addr × HO)) : Prop where
  ex : ∃ (Gp : Hp → Prop) (Y : Nat → Hp → V → Hp → Prop), Walk J items.length Gp Y ∧ (∀ H, Same G H → (∀ a o, ro = some (a, o) → H a = some o) → Gp H) ∧
    ∀ i H v H' d G1, items[i]? = some d → Same G G1 → Same G1 H → Y i H v H' → ∃ G2, Ext H G1 H' G2 ∧ Dt Γ G2 v d
def FinI (Γ : Ga) (cs ts : List Nat) (W : WX) (b : Bool) (σ : L2.St) (H G : Hp) (Rr : It → Hp → Prop) : Option R → Prop
  | some (.ok (.lst items) ρ') => ∀ J H' G' ro, (b = false → ro = none) → Rep Γ cs σ H' G' ρ' → Stp (T ts σ) H G H' G' → (∀ a o, ro = some (a, o) → H' a = some o) → WalkD Γ J items G' ro → Rr J H'
  | some (.ex x ρ') => ∀ c dx H' G', Rep Γ cs σ H' G' ρ' → Stp (T ts σ) H G H' G' → Dx Γ H' G' c dx x → W c dx σ H'
  | _ => False
/-- b: the items may lie in a cell -/
def tI (Γ : Ga) (cs ts : List Nat) (W : WX) (b : Bool) (f : E) : TI := fun σ H Rr => ∃ G ρ, Rep Γ cs σ H G ρ ∧ FinI Γ cs ts W b σ H G Rr (f ρ)
theorem PI.imp {tg e : Expr} {t t' : TI} (h : PI X tg e t) (k : ∀ σ H Q, t' σ H Q → t σ H Q) : PI X tg e t' := ⟨fun pins s σ H Q I hw => h.run pins s σ H Q I (k σ H Q hw)⟩
def loopF (t : Tg) (B : SM) : List D → SM
  | [], ρ => some (.nx ρ)
  | d :: ds, ρ => match tgtD t d ρ with
    | none => none
    | some ρ1 => match B ρ1 with
      | some (.nx ρ2) => loopF t B ds ρ2
      | some (.ct ρ2) => loopF t B ds ρ2
      | some (.bk ρ2) => some (.nx ρ2)
      | r => r
def sFor (t : Tg) (f : E) (B : SM) : SM := fun ρ => sBind (f ρ) fun d ρ1 => match d with
  | .lst items => loopF t B items ρ1
  | _ => none
abbrev Sx.loop (S : Sx) (cs : List Nat) : Sx := { S with lc := cs }
theorem finSI {k : List D → Env → Option Out} {Rr : It → Hp → Prop} (hx : ∀ i ∈ S.xc, i ∈ cs) (fin : FinS Γ S cs cs' D0 σ H G (sBind r fun d ρ1 => match d with
  | .lst items => k items ρ1
  | _ => none))
    (hk : ∀ items ρ1 J H1 G1, Rep Γ cs σ H1 G1 ρ1 → Stp (T cs σ) H G H1 G1 → WalkD Γ J items G1 none → FinS Γ S cs cs' D0 σ H G (k items ρ1) → Rr J H1) : FinI Γ cs cs S.W false σ H G Rr r := by
  rcases r with _ | ⟨d, ρ'⟩ | ⟨x, ρ'⟩
  · exact fin
  · cases d with
    | lst items =>
      intro J H' G' ro hro rep st _ w
      cases hro rfl
      exact hk items ρ' J H' G' rep st w fin
    | _ => exact (show False from fin).elim
  · intro c dx H' G' rep st e
    obtain ⟨G2, rep2, s2, st2⟩ := rep.frz (fx := S.fx) hx
    exact fin c dx σ H' G2 rep2 ((StS.of st).trans st2) (e.same s2)
theorem ms_for {iter tg : Expr} {body : List Stmt} {t : Tg} {B : SM} (hp : PassesOwn (model X.prog X.w) X.A X.env X.xe) (hc : X.calm = true) (hi : PI X tg iter (tI Γ cs cs S.W false f)) (hg : PG X tg (tG Γ S.fx cs t)) (hb : PSs X body (tS Γ (S.loop cs) cs cs B))
    (hx : ∀ i ∈ S.xc, i ∈ cs := by first | decide | (dsimp only [fxOf]; decide)) (hs : ∀ x, foldedSetIterable iter X.env x = pure x := by intro _; rfl) : PS X (.For tg iter body [] pos) (tS Γ S cs cs (sFor t f B)) :=
  PS.imp (ps_for hp hc hi hg hb hs) fun D0 σ H ⟨G, ρ, rep, fin⟩ => by
    refine ⟨G, ρ, rep, finSI (k := fun items ρ1 => loopF t B items ρ1) hx fin fun items ρ1 J H1 G1 rep1 st1 w fin1 => ?_⟩
    obtain ⟨Gp, Y, wk, wg, wy⟩ := w.ex
    refine for_it wk (fun i σ' H' => ∃ G' ρ', Rep Γ cs σ' H' G' ρ' ∧ Same G1 G' ∧ FinS Γ S cs cs D0 σ' H' G' (loopF t B (items.drop i) ρ')) ⟨G1, ρ1, rep1, Same.refl _, fin1.step (.of st1)⟩
      (fun i σ' H' _ ⟨G', ρ', rep', sm, _⟩ => wg H' (sm.trans rep'.sub) (fun _ _ z => nomatch z)) (fun i x σ' H' H2 hi ⟨G', ρ', rep', sm, fin'⟩ y => ?_) fun σ' H' ⟨G', ρ', rep', sm, fin'⟩ => ?_
    · have hd : items[i]? = some items[i] := List.getElem?_eq_getElem hi
      rw [List.drop_eq_getElem_cons hi] at fin'
      unfold loopF at fin'
      obtain ⟨G2, ex2, dt2⟩ := wy i H' x H2 items[i] G' hd sm rep'.sub y
      cases q : tgtD t items[i] ρ' with
      | none => rw [q] at fin'; exact fin'.elim
      | some ρ2 =>
        rw [q] at fin'
        have rep2 := rep'.ext ex2
        refine ⟨G2, _, ρ', ρ2, rep2, dt2, q, fun σ3 st3 => ⟨G2, ρ2, st3.1, ?_⟩⟩
        have s03 : StS S.fx cs cs σ' H' G' σ3 H2 G2 := .stored ex2.any st3
        have sm2 : Same G1 G2 := sm.trans ex2.st.g
        dsimp only at fin'
        generalize B ρ2 = b at fin' ⊢
        rcases b with _ | ⟨ρ4⟩ | ⟨d, ρ4⟩ | ⟨ρ4⟩ | ⟨ρ4⟩ | ⟨z, ρ4⟩
        · exact fin'
        · exact fun σ4 H4 G4 rep4 st4 => ⟨G4, ρ4, rep4, sm2.trans st4.st.g, FinS.step (show FinS Γ S cs cs D0 σ' H' G' (loopF t B (items.drop (i + 1)) ρ4) from fin') (s03.trans st4)⟩
        · exact fun v σ4 H4 G4 rep4 st4 rm => (show FinS Γ S cs cs D0 σ' H' G' (some (.rt d ρ4)) from fin') v σ4 H4 G4 rep4 (s03.trans st4) (rm.back s03.st.t)
        · exact fun σ4 H4 G4 rep4 st4 => (show FinS Γ S cs cs D0 σ' H' G' (some (.nx ρ4)) from fin') σ4 H4 G4 rep4 (s03.trans st4)
        · exact fun σ4 H4 G4 rep4 st4 => ⟨G4, ρ4, rep4, sm2.trans st4.st.g, FinS.step (show FinS Γ S cs cs D0 σ' H' G' (loopF t B (items.drop (i + 1)) ρ4) from fin') (s03.trans st4)⟩
        · exact fun c dx σ4 H4 G4 rep4 st4 e => (show FinS Γ S cs cs D0 σ' H' G' (some (.ex z ρ4)) from fin') c dx σ4 H4 G4 rep4 (s03.trans st4) e
    · rw [List.drop_length] at fin'
      exact fin' σ' H' G' rep' StS.refl
def whileF (t : E) (B : SM) : Nat → SM
  | 0, _ => none
  | n + 1, ρ => sBind (t ρ) fun d ρ1 => match d with
    | .bl true => (match B ρ1 with
      | some (.nx ρ2) => whileF t B n ρ2
      | some (.ct ρ2) => whileF t B n ρ2
      | some (.bk ρ2) => some (.nx ρ2)
      | r => r)
    | .bl false => some (.nx ρ1)
    | _ => none
theorem ms_while {c : Expr} {body : List Stmt} {t : E} {B : SM} {n : Nat} (hp : PassesOwn (model X.prog X.w) X.A X.env X.xe) (hc : PT X c (tT Γ cs cs S.W t)) (hb : PSs X body (tS Γ (S.loop cs) cs cs B)) (hx : ∀ i ∈ S.xc, i ∈ cs := by first | decide | (dsimp only [fxOf]; decide)) :
    PS X (.While c body [] pos) (tS Γ S cs cs (whileF t B n)) :=
  PS.imp (ps_while hp hc hb) fun D0 σ H ⟨G, ρ, rep, fin⟩ => by
    refine ⟨fun m σ' H' => ∃ G' ρ', Rep Γ cs σ' H' G' ρ' ∧ FinS Γ S cs cs D0 σ' H' G' (whileF t B m ρ'), ⟨n, G, ρ, rep, fin⟩, ?_⟩
    rintro m σ' H' ⟨G', ρ', rep', fin'⟩
    cases m with
    | zero => exact fin'.elim
    | succ m =>
      unfold whileF at fin'
      rw [bool_splitS] at fin'
      refine ⟨G', ρ', rep', finST (k := fun b ρ1 => if b = true then (match B ρ1 with
        | some (.nx ρ2) => whileF t B m ρ2
        | some (.ct ρ2) => whileF t B m ρ2
        | some (.bk ρ2) => some (.nx ρ2)
        | r => r) else some (.nx ρ1)) hx fin' fun b ρ1 H1 G1 rep1 st1 fin1 => ?_⟩
      cases b with
      | false =>
        rw [if_neg Bool.false_ne_true] at fin1 ⊢
        exact fin1 σ' H1 G1 rep1 (.of st1)
      | true =>
        rw [if_pos rfl] at fin1 ⊢
        refine ⟨fun σ4 H4 => ∃ G4 ρ4, Rep Γ cs σ4 H4 G4 ρ4 ∧ FinS Γ S cs cs D0 σ4 H4 G4 (whileF t B m ρ4), fun σ4 H4 h => ⟨m, Nat.lt_succ_self m, h⟩, G1, ρ1, rep1, ?_⟩
        have s01 : StS S.fx cs cs σ' H' G' σ' H1 G1 := .of st1
        generalize B ρ1 = b at fin1 ⊢
        rcases b with _ | ⟨ρ4⟩ | ⟨d, ρ4⟩ | ⟨ρ4⟩ | ⟨ρ4⟩ | ⟨z, ρ4⟩
        · exact fin1
        · exact fun σ4 H4 G4 rep4 st4 => ⟨G4, ρ4, rep4, FinS.step (show FinS Γ S cs cs D0 σ' H' G' (whileF t B m ρ4) from fin1) (s01.trans st4)⟩
        · exact fun v σ4 H4 G4 rep4 st4 rm => (show FinS Γ S cs cs D0 σ' H' G' (some (.rt d ρ4)) from fin1) v σ4 H4 G4 rep4 (s01.trans st4) (rm.back s01.st.t)
        · exact fun σ4 H4 G4 rep4 st4 => (show FinS Γ S cs cs D0 σ' H' G' (some (.nx ρ4)) from fin1) σ4 H4 G4 rep4 (s01.trans st4)
        · exact fun σ4 H4 G4 rep4 st4 => ⟨G4, ρ4, rep4, FinS.step (show FinS Γ S cs cs D0 σ' H' G' (whileF t B m ρ4) from fin1) (s01.trans st4)⟩
        · exact fun c dx σ4 H4 G4 rep4 st4 e => (show FinS Γ S cs cs D0 σ' H' G' (some (.ex z ρ4)) from fin1) c dx σ4 H4 G4 rep4 (s01.trans st4) e
theorem whileF_mono {t : E} {B : SM} : ∀ {n m : Nat} {ρ : Env} {o : Out}, whileF t B n ρ = some o → n ≤ m → whileF t B m ρ = some o
  | 0, _, _, _, h, _ => by cases h
  | n + 1, 0, _, _, _, hm => absurd hm (Nat.not_succ_le_zero n)
  | n + 1, m + 1, ρ, o, h, hm => by
    have hm' : n ≤ m := Nat.le_of_succ_le_succ hm
    unfold whileF at h ⊢
    rcases hq : t ρ with _ | ⟨d, ρ1⟩ | ⟨x, ρ1⟩ <;> rw [hq] at h
    · exact h
    · simp only [sBind_ok] at h ⊢
      rcases d with _ | (_ | _) | _ | _ | _ | _ | _ | _ | _ | _ | _ | _ | _ <;> try exact h
      rcases hB : B ρ1 with _ | (_ | _ | _ | _ | _) <;> simp only [hB] at h ⊢ <;> first | exact whileF_mono h hm' | exact h
    · exact h
open Classical in
/-- a while loop, however long -/
noncomputable def whileN (t : E) (B : SM) : SM := fun ρ => if h : ∃ n o, whileF t B n ρ = some o then whileF t B (Classical.choose h) ρ else none
theorem whileN_of {t : E} {B : SM} {n : Nat} {ρ : Env} {o : Out} (h : whileF t B n ρ = some o) : whileN t B ρ = some o := by
  have hx : ∃ n o, whileF t B n ρ = some o := ⟨n, o, h⟩
  unfold whileN
  rw [dif_pos hx]
  obtain ⟨o', ho⟩ := Classical.choose_spec hx
  have h1 := whileF_mono h (Nat.le_max_left n (Classical.choose hx))
  have h2 := whileF_mono ho (Nat.le_max_right n (Classical.choose hx))
  rw [h1] at h2
  rw [ho, h2]
theorem whileN_ex {t : E} {B : SM} (ρ : Env) : ∃ n, whileN t B ρ = whileF t B n ρ := by
  by_cases hx : ∃ n o, whileF t B n ρ = some o
  · exact ⟨Classical.choose hx, by unfold whileN; rw [dif_pos hx]⟩
  · exact ⟨0, by unfold whileN; rw [dif_neg hx]; rfl⟩
theorem PS.ex {X : Cx} {st : Stmt} {P : Nat → TS} (h : ∀ n, PS X st (P n)) : PS X st fun D σ H => ∃ n, P n D σ H := ⟨fun pins s σ H D i ⟨n, z⟩ => (h n).run pins s σ H D i z⟩
theorem ms_whileN {c : Expr} {body : List Stmt} {t : E} {B : SM} (hp : PassesOwn (model X.prog X.w) X.A X.env X.xe) (hc : PT X c (tT Γ cs cs S.W t)) (hb : PSs X body (tS Γ (S.loop cs) cs cs B)) (hx : ∀ i ∈ S.xc, i ∈ cs := by first | decide | (dsimp only [fxOf]; decide)) :
    PS X (.While c body [] pos) (tS Γ S cs cs (whileN t B)) :=
  PS.imp (PS.ex fun n => ms_while (n := n) hp hc hb hx) fun D0 σ H ⟨G, ρ, rep, fin⟩ => by
    obtain ⟨n, e⟩ := whileN_ex (t := t) (B := B) ρ
    exact ⟨n, G, ρ, rep, by rw [← e]; exact fin⟩
end
end Mi

set_option Elab.async false
set_option linter.all false
set_option maxRecDepth 100000
set_option maxHeartbeats 4000000
namespace Mi
open PySem PySem.Spec PyProof.Rows L2
/-! ### arguments, displays, built-in calls -/
inductive Kd | full | own | root | cel (i : Nat)
  deriving DecidableEq
def RK (Γ : Ga) (σ : L2.St) (H0 H G : Hp) : Kd → V → D → Prop
  | .full, v, d => Dt Γ G v d
  | .own, v, d => RM Γ .own H0 H G v d
  | .root, v, d => RM Γ .root H0 H G v d
  | .cel i, v, _ => σ[i]? = some (some v)
def ownVs : List Kd → List V → List V
  | .own :: ks, v :: vs => v :: ownVs ks vs
  | _ :: ks, _ :: vs => ownVs ks vs
  | _, _ => []
def RKs (Γ : Ga) (σ : L2.St) (H0 H G : Hp) : List Kd → List V → List D → Prop
  | [], [], [] => True
  | k :: ks, v :: vs, d :: ds => RK Γ σ H0 H G k v d ∧ (k = .own → v ∉ ownVs ks vs) ∧ RKs Γ σ H0 H G ks vs ds
  | _, _, _ => False
inductive RA | ok (ds : List D) (ρ : Env) | ex (x : D) (ρ : Env)
def FinA (Γ : Ga) (cs ts : List Nat) (W : WX) (ks : List Kd) (σ : L2.St) (H G : Hp) (Q : List V → Hp → Prop) : Option RA → Prop
  | none => False
  | some (.ok ds ρ') => ∀ vs H' G', Rep Γ cs σ H' G' ρ' → Stp (T ts σ) H G H' G' → RKs Γ σ H H' G' ks vs ds → Q vs H'
  | some (.ex x ρ') => ∀ c dx H' G', Rep Γ cs σ H' G' ρ' → Stp (T ts σ) H G H' G' → Dx Γ H' G' c dx x → W c dx σ H'
abbrev EA := Env → Option RA
def tA (Γ : Ga) (cs ts : List Nat) (W : WX) (ks : List Kd) (f : EA) : TA := fun σ H Q => ∃ G ρ, Rep Γ cs σ H G ρ ∧ FinA Γ cs ts W ks σ H G Q (f ρ)
def aNil : EA := fun ρ => some (.ok [] ρ)
def aCons (f : E) (g : EA) : EA := fun ρ => match f ρ with
  | none => none
  | some (.ex x ρ1) => some (.ex x ρ1)
  | some (.ok d ρ1) => match g ρ1 with
    | some (.ok ds ρ2) => some (.ok (d :: ds) ρ2)
    | r => r
def Kd.fo : Kd → Bool
  | .full => true
  | .own => true
  | _ => false
def Kd.nc : Kd → Bool
  | .cel _ => false
  | _ => true
def Kd.md : Kd → Md
  | .full => .full
  | .own => .own
  | .root => .root
  | .cel _ => .full
section
variable {Γ : Ga} {cs ts : List Nat} {W : WX} {m : Md} {σ : L2.St} {H G H1 G1 H0 : Hp} {ρ : Env} {Q : List V → Hp → Prop} {f : E} {g : EA} {X : Cx} {e : Expr} {es : List Expr} {k : Kd} {ks : List Kd}
theorem RK.back {v : V} {d : D} (r : RK Γ σ H1 H G k v d) (t : ∀ a, H0 a ≠ none → H1 a ≠ none) : RK Γ σ H0 H G k v d := by
  cases k with
  | full => exact r
  | own => exact RM.back (m := .own) r t
  | root => exact r
  | cel i => exact r
theorem RKs.back : ∀ {ks : List Kd} {vs : List V} {ds : List D}, RKs Γ σ H1 H G ks vs ds → (∀ a, H0 a ≠ none → H1 a ≠ none) → RKs Γ σ H0 H G ks vs ds
  | [], [], [], _, _ => trivial
  | _ :: _, _ :: _, _ :: _, h, t => ⟨h.1.back t, h.2.1, h.2.2.back t⟩
  | [], [], _ :: _, h, _ => h.elim
  | [], _ :: _, _, h, _ => h.elim
  | _ :: _, [], _, h, _ => h.elim
  | _ :: _, _ :: _, [], h, _ => h.elim
theorem RKs.own : ∀ {ks : List Kd} {vs : List V} {ds : List D} {v : V}, RKs Γ σ H0 H G ks vs ds → v ∈ ownVs ks vs → ∃ a, v = .ref a ∧ H0 a = none
  | [], [], [], _, _, h => absurd h List.not_mem_nil
  | k :: ks, u :: vs, d :: ds, v, r, h => by
    cases k with
    | own =>
      unfold ownVs at h
      rcases List.mem_cons.mp h with e | h
      · obtain ⟨a, o, h1, h2, _⟩ := r.1
        exact ⟨a, e.trans h1, h2⟩
      · exact r.2.2.own h
    | full => exact r.2.2.own h
    | root => exact r.2.2.own h
    | cel i => exact r.2.2.own h
  | [], [], _ :: _, _, h, _ => h.elim
  | [], _ :: _, _, _, h, _ => h.elim
  | _ :: _, [], _, _, h, _ => h.elim
  | _ :: _, _ :: _, [], _, h, _ => h.elim
theorem FinA.step {q : Option RA} (h : FinA Γ cs ts W ks σ H G Q q) (s : Stp (T ts σ) H G H1 G1) : FinA Γ cs ts W ks σ H1 G1 Q q := by
  rcases q with _ | ⟨d, ρ'⟩ | ⟨x, ρ'⟩
  · exact h
  · exact fun v H' G' rep st rm => h v H' G' rep (s.tr st) (rm.back s.t)
  · exact fun c dx H' G' rep st q => h c dx H' G' rep (s.tr st) q
theorem ma_nil : PA X [] (tA Γ cs ts W [] aNil) := PA.imp pa_nil fun σ H Q ⟨G, ρ, rep, fin⟩ => fin [] H G rep Stp.refl trivial
/-- the head's value stands behind what touches the cells alone -/
theorem RK.keep {v : V} {d : D} {H2 G2 : Hp} (r : RK Γ σ H0 H1 G1 k v d) (hk : k ≠ .root) (rep0 : Rep Γ cs σ H0 G ρ) (hts : ∀ i ∈ ts, i ∈ cs) (st : Stp (T ts σ) H1 G1 H2 G2) : RK Γ σ H0 H2 G2 k v d := by
  cases k with
  | full => exact Dt.same st.g r
  | root => exact absurd rfl hk
  | cel i => exact r
  | own =>
    obtain ⟨a, o, h1, h2, h3, h4, h5⟩ := r
    have nT : ¬ T ts σ a := fun z => (rep0.tc (T.sub hts z)).1 h2
    exact ⟨a, o, h1, h2, st.h _ _ h3 nT, st.n a h4 (by rw [h3]; intro z; cases z) nT, h5.same st.g⟩
theorem ma_cons (he : PE X e (tE Γ cs ts W k.md f)) (hr : PA X es (tA Γ cs ts W ks g)) (hk : k.fo = true := by rfl) (hts : ∀ i ∈ ts, i ∈ cs := by first | exact nil_sub | exact all_sub)
    (hs : starEach (e :: es) X.env = (false, eval e X.env) :: starEach es X.env := by rfl) : PA X (e :: es) (tA Γ cs ts W (k :: ks) (aCons f g)) :=
  PA.imp (pa_cons he hr hs) fun σ H Q ⟨G, ρ, rep, fin⟩ => by
    have toRK : ∀ {H1 G1 : Hp} {v : V} {d : D}, RM Γ k.md H H1 G1 v d → RK Γ σ H H1 G1 k v d := fun {H1 G1 v d} rm => by
      cases k with
      | full => exact rm
      | own => exact rm
      | root => cases hk
      | cel i => cases hk
    have nroot : k ≠ .root := by rintro rfl; cases hk
    refine ⟨G, ρ, rep, ?_⟩
    unfold aCons at fin
    generalize f ρ = r at fin ⊢
    rcases r with _ | ⟨d, ρ1⟩ | ⟨x, ρ1⟩
    · exact fin
    · intro v H1 G1 rep1 st1 rm
      refine ⟨G1, ρ1, rep1, ?_⟩
      dsimp only at fin
      generalize g ρ1 = r2 at fin ⊢
      rcases r2 with _ | ⟨ds, ρ2⟩ | ⟨x, ρ2⟩
      · exact fin
      · intro vs H2 G2 rep2 st2 rk
        have hd := (toRK rm).keep nroot rep hts st2
        refine fin (v :: vs) H2 G2 rep2 (st1.tr st2) ⟨hd, fun e hm => ?_, rk.back st1.t⟩
        subst e
        obtain ⟨a, h1, h2⟩ := rk.own hm
        obtain ⟨b, o, q1, q2, q3, _⟩ := rm
        rw [h1] at q1
        cases q1
        rw [q3] at h2
        cases h2
      · exact fun c dx H2 G2 rep2 st2 q => fin c dx H2 G2 rep2 (st1.tr st2) q
    · exact fin
/-- the head may be a cell's, what follows touches nothing -/
theorem ma_consR (he : PE X e (tE Γ cs ts W .root f)) (hr : PA X es (tA Γ cs [] W ks g)) (hs : starEach (e :: es) X.env = (false, eval e X.env) :: starEach es X.env := by rfl) : PA X (e :: es) (tA Γ cs ts W (.root :: ks) (aCons f g)) :=
  PA.imp (pa_cons he hr hs) fun σ H Q ⟨G, ρ, rep, fin⟩ => by
    refine ⟨G, ρ, rep, ?_⟩
    unfold aCons at fin
    generalize f ρ = r at fin ⊢
    rcases r with _ | ⟨d, ρ1⟩ | ⟨x, ρ1⟩
    · exact fin
    · intro v H1 G1 rep1 st1 rm
      refine ⟨G1, ρ1, rep1, ?_⟩
      dsimp only at fin
      generalize g ρ1 = r2 at fin ⊢
      rcases r2 with _ | ⟨ds, ρ2⟩ | ⟨x, ρ2⟩
      · exact fin
      · intro vs H2 G2 rep2 st2 rk
        refine fin (v :: vs) H2 G2 rep2 (st1.tr (st2.mono fun _ z => absurd z T.nil)) ⟨?_, (fun e _ => by cases e), rk.back st1.t⟩
        rcases rm with z | ⟨a, o, h1, h2, h3⟩
        · exact .inl (Dt.same st2.g z)
        · exact .inr ⟨a, o, h1, st2.h _ _ h2 T.nil, h3.same st2.g⟩
      · exact fun c dx H2 G2 rep2 st2 q => fin c dx H2 G2 rep2 (st1.tr (st2.mono fun _ z => absurd z T.nil)) q
    · exact fin
/-- a cell that is handed on -/
def eCel (i : Nat) : E := fun ρ => match ρ[i]? with
  | some (some _) => some (.ok .non ρ)
  | _ => none
theorem ma_cel {i : Nat} (he : PE X e (tVar i)) (hr : PA X es (tA Γ cs ts W ks g)) (hi : i ∈ cs := by decide) (hs : starEach (e :: es) X.env = (false, eval e X.env) :: starEach es X.env := by rfl) : PA X (e :: es) (tA Γ cs ts W (.cel i :: ks) (aCons (eCel i) g)) :=
  PA.imp (pa_cons he hr hs) fun σ H Q ⟨G, ρ, rep, fin⟩ => by
    unfold aCons eCel at fin
    cases q : ρ[i]? with
    | none => rw [q] at fin; exact fin.elim
    | some y =>
      cases y with
      | none => rw [q] at fin; exact fin.elim
      | some d =>
        rw [q] at fin
        obtain ⟨a, o, h1, h2, h3, h4⟩ := rep.own i d hi q
        refine ⟨.ref a, h1, G, ρ, rep, ?_⟩
        dsimp only at fin
        generalize g ρ = r2 at fin ⊢
        rcases r2 with _ | ⟨ds, ρ2⟩ | ⟨x, ρ2⟩
        · exact fin
        · exact fun vs H2 G2 rep2 st2 rk => fin _ H2 G2 rep2 st2 ⟨h1, (fun e _ => by cases e), rk⟩
        · exact fin
/-! ### tuples, lists -/
theorem RKs.fulls : ∀ {ks : List Kd} {vs : List V} {ds : List D}, (∀ k ∈ ks, k = .full) → RKs Γ σ H0 H G ks vs ds → Dts Γ G vs ds
  | [], [], [], _, _ => .nil
  | k :: ks, _ :: _, _ :: _, hk, h => by
    have e := hk k List.mem_cons_self
    subst e
    exact .cons h.1 (h.2.2.fulls fun k hm => hk k (List.mem_cons_of_mem _ hm))
  | [], [], _ :: _, _, h => h.elim
  | [], _ :: _, _, _, h => h.elim
  | _ :: _, [], _, _, h => h.elim
  | _ :: _, _ :: _, [], _, h => h.elim
theorem RKs.len : ∀ {ks : List Kd} {vs : List V} {ds : List D}, RKs Γ σ H0 H G ks vs ds → vs.length = ks.length
  | [], [], [], _ => rfl
  | k :: ks, _ :: _, _ :: _, h => congrArg (· + 1) h.2.2.len
  | [], [], _ :: _, h => h.elim
  | [], _ :: _, _, h => h.elim
  | _ :: _, [], _, h => h.elim
  | _ :: _, _ :: _, [], h => h.elim
def aBind (r : Option RA) (k : List D → Env → Option R) : Option R := match r with
  | none => none
  | some (.ok d ρ) => k d ρ
  | some (.ex x ρ) => some (.ex x ρ)
@[simp] theorem aBind_ok {d : List D} {ρ : Env} {k : List D → Env → Option R} : aBind (some (.ok d ρ)) k = k d ρ := rfl
@[simp] theorem aBind_ex {d : D} {ρ : Env} {k : List D → Env → Option R} : aBind (some (.ex d ρ)) k = some (.ex d ρ) := rfl
@[simp] theorem aBind_none {k : List D → Env → Option R} : aBind none k = none := rfl
theorem finA_bind {r : Option RA} {K : List D → Env → Option R} {Q : VK} {Q1 : List V → Hp → Prop} (fin : Fin Γ cs ts W m σ H G Q (aBind r K))
    (hk : ∀ vs ds ρ1 H1 G1, Rep Γ cs σ H1 G1 ρ1 → Stp (T ts σ) H G H1 G1 → RKs Γ σ H H1 G1 ks vs ds → Fin Γ cs ts W m σ H G Q (K ds ρ1) → Q1 vs H1) : FinA Γ cs ts W ks σ H G Q1 r := by
  rcases r with _ | ⟨d, ρ'⟩ | ⟨x, ρ'⟩
  · exact fin
  · exact fun v H' G' rep st rm => hk v d ρ' H' G' rep st rm fin
  · exact fin
def eTup (g : EA) : E := fun ρ => aBind (g ρ) fun ds ρ1 => some (.ok (.tup ds) ρ1)
def eLst (g : EA) : E := fun ρ => aBind (g ρ) fun ds ρ1 => some (.ok (.lst ds) ρ1)
theorem small_len {n : Nat} (h : n ≤ 1000) : n ≤ sizeLine := Nat.le_trans h (by decide)
theorem SqT.sees {K : PySem.W.Frag} {a : Addr} {vs : List V} {H : Hp} : SqT K (upd H a (.tup vs)) a vs := .inl (.inl upd_same)
theorem me_tup {x1 : Nat} {pos : Pos} (h : PA X es (tA Γ cs ts W ks g)) (hk : ∀ k ∈ ks, k = .full := by decide) (hl : ks.length ≤ 1000 := by decide) : PE X (.Tuple es x1 pos) (tE Γ cs ts W .full (eTup g)) :=
  PE.imp (pe_tup h) fun σ H Q ⟨G, ρ, rep, fin⟩ => ⟨G, ρ, rep, finA_bind fin fun vs ds ρ1 H1 G1 rep1 st1 rk fin1 => ⟨small_len (by rw [rk.len]; exact hl), fun p np => by
    have ex : Ext H1 G1 (upd H1 p (.tup vs)) (upd G1 p (.tup vs)) := Ext.new rep1.sub np
    exact fin_ret (fin1.step st1) rep1 ex (Dt.tup SqT.sees ((rk.fulls hk).same ex.st.g))⟩⟩
theorem me_lst {pos : Pos} (h : PA X es (tA Γ cs ts W ks g)) (hk : ∀ k ∈ ks, k = .full := by decide) (hl : ks.length ≤ 1000 := by decide) : PE X (.List es pos) (tE Γ cs ts W .own (eLst g)) :=
  PE.imp (pe_lst h) fun σ H Q ⟨G, ρ, rep, fin⟩ => ⟨G, ρ, rep, finA_bind fin fun vs ds ρ1 H1 G1 rep1 st1 rk fin1 => ⟨small_len (by rw [rk.len]; exact hl), fun p np => by
    have ex : Ext H1 G1 (upd H1 p (.lst vs)) G1 := Ext.newOwn rep1.sub np
    exact fin_ret (fin1.step st1) rep1 ex ⟨p, _, rfl, np, upd_same, free_sub rep1.sub np, .lst (rk.fulls hk)⟩⟩⟩
/-! ### built-in calls by values -/
/-- each value with what stands at its root -/
inductive RVs (Γ : Ga) (H G : Hp) : List V → List D → Prop
  | nil : RVs Γ H G [] []
  | cons {v : V} {d : D} {vs : List V} {ds : List D} (h : RM Γ .root H H G v d) (r : RVs Γ H G vs ds) : RVs Γ H G (v :: vs) (d :: ds)
theorem RKs.roots : ∀ {ks : List Kd} {vs : List V} {ds : List D}, (∀ k ∈ ks, k.nc = true) → RKs Γ σ H0 H G ks vs ds → RVs Γ H G vs ds
  | [], [], [], _, _ => .nil
  | k :: ks, _ :: _, _ :: _, hk, h => by
    have e := hk k List.mem_cons_self
    refine .cons ?_ (h.2.2.roots fun k hm => hk k (List.mem_cons_of_mem _ hm))
    cases k with
    | full => exact .inl h.1
    | root => exact h.1
    | own =>
      obtain ⟨a, o, h1, _, h3, _, h5⟩ := h.1
      exact .inr ⟨a, o, h1, h3, h5⟩
    | cel i => cases e
  | [], [], _ :: _, _, h => h.elim
  | [], _ :: _, _, _, h => h.elim
  | _ :: _, [], _, _, h => h.elim
  | _ :: _, _ :: _, [], _, h => h.elim
def SoA (Γ : Ga) (m : Md) (r : List V → Hp → VK → Prop) (op : List D → Option D) : Prop := ∀ (H G : Hp) (xs : List V) (ds : List D) (z : D) (Q : VK), Same G H → RVs Γ H G xs ds → op ds = some z →
  (∀ v H' G', Ext H G H' G' → RM Γ m H H' G' v z → Q v H') → r xs H Q
def eB (op : List D → Option D) (g : EA) : E := fun ρ => aBind (g ρ) fun ds ρ1 => lift (op ds) ρ1
theorem coreB {r : List V → Hp → VK → Prop} {op : List D → Option D} (so : SoA Γ m r op) (hk : ∀ k ∈ ks, k.nc = true) {Q : VK} (h : tE Γ cs ts W m (eB op g) σ H Q) : tCB r (tA Γ cs ts W ks g) σ H Q := by
  obtain ⟨G, ρ, rep, fin⟩ := h
  refine ⟨G, ρ, rep, finA_bind fin fun vs ds ρ1 H1 G1 rep1 st1 rk fin1 => ?_⟩
  cases e : op ds with
  | none => rw [e] at fin1; exact fin1.elim
  | some z =>
    rw [e] at fin1
    exact so H1 G1 vs ds z Q rep1.sub (rk.roots hk) e fun u H' G' ex rm => fin_ret (fin1.step st1) rep1 ex rm
section
variable {x : Str} {p pos : Pos} {id : String} {r : List V → Hp → VK → Prop} {op : List D → Option D}
theorem me_callB (hc : CallR X (.builtin id) r) (so : SoA Γ m r op) (hg : Gl X x) (hm : X.mg x = none) (hv : bootBuiltins x = some (.builtin id)) (ha : PA X (e :: es) (tA Γ cs ts W ks g)) (hk : ∀ k ∈ ks, k.nc = true := by decide)
    (hn : x ≠ "__name__" := by decide) (hd : (x == ("__debug__" : Str)) = false := by decide) (he : starEach (e :: es) X.env = (false, eval e X.env) :: starEach es X.env := by rfl) (hpl : (backTo pos (starEach es X.env)).any (·.1) = false := by rfl) :
    PE X (.Call (.Name x p) (e :: es) [] pos) (tE Γ cs ts W m (eB op g)) :=
  PE.imp (pe_callB hc hg hm hv ha (hn := hn) (hdb := hd) (he := he) (hpl := hpl)) fun _ _ _ h => coreB so hk h
theorem me_callTy {Ty : String} (hc : CallR X (.type Ty) r) (so : SoA Γ m r op) (hg : Gl X x) (hm : X.mg x = none) (hv : bootBuiltins x = some (.type Ty)) (ha : PA X (e :: es) (tA Γ cs ts W ks g)) (hk : ∀ k ∈ ks, k.nc = true := by decide) (hn : x ≠ "__name__" := by decide) (hd : (x == ("__debug__" : Str)) = false := by decide)
    (he : starEach (e :: es) X.env = (false, eval e X.env) :: starEach es X.env := by rfl) (hpl : (backTo pos (starEach es X.env)).any (·.1) = false := by rfl) : PE X (.Call (.Name x p) (e :: es) [] pos) (tE Γ cs ts W m (eB op g)) :=
  PE.imp (pe_callTy hc hg hm hv ha (hn := hn) (hdb := hd) (he := he) (hpl := hpl)) fun _ _ _ h => coreB so hk h
end
end
end Mi

set_option linter.all false
namespace Lk
/-! ### words as lists of letters: true is x -/
def nx (l : List Bool) : Nat := l.count true
def ny (l : List Bool) : Nat := l.count false
theorem nx_nil : nx [] = 0 := rfl
theorem ny_nil : ny [] = 0 := rfl
theorem nx_t (r : List Bool) : nx (true :: r) = nx r + 1 := by simp [nx]
theorem nx_f (r : List Bool) : nx (false :: r) = nx r := by simp [nx]
theorem ny_t (r : List Bool) : ny (true :: r) = ny r := by simp [ny]
theorem ny_f (r : List Bool) : ny (false :: r) = ny r + 1 := by simp [ny]
theorem nxy (l : List Bool) : nx l + ny l = l.length := by
  induction l with
  | nil => rfl
  | cons b r ih =>
    cases b
    · rw [nx_f, ny_f, List.length_cons]; omega
    · rw [nx_t, ny_t, List.length_cons]; omega
theorem nx_app (a b : List Bool) : nx (a ++ b) = nx a + nx b := by simp [nx, List.count_append]
theorem ny_app (a b : List Bool) : ny (a ++ b) = ny a + ny b := by simp [ny, List.count_append]
theorem nx_rt (n : Nat) : nx (List.replicate n true) = n := by simp [nx]
theorem nx_rf (n : Nat) : nx (List.replicate n false) = 0 := by simp [nx, List.count_replicate]
theorem ny_rt (n : Nat) : ny (List.replicate n true) = 0 := by simp [ny, List.count_replicate]
theorem ny_rf (n : Nat) : ny (List.replicate n false) = n := by simp [ny]
theorem nx_le (l : List Bool) : nx l ≤ l.length := by have := nxy l; omega
theorem ny_le (l : List Bool) : ny l ≤ l.length := by have := nxy l; omega
/-- the letters and their feet -/
def feetL : List Bool → List (Bool × Nat × Nat)
  | [] => []
  | b :: r => (b, nx r, ny r) :: feetL r
theorem feetL_len (l : List Bool) : (feetL l).length = l.length := by
  induction l with
  | nil => rfl
  | cons b r ih => simp [feetL, ih]
theorem feetL_get : ∀ (l : List Bool) (k : Nat) (h : k < l.length), (feetL l)[k]? = some (l[k], nx (l.drop (k + 1)), ny (l.drop (k + 1)))
  | b :: r, 0, _ => rfl
  | b :: r, k + 1, h => by
    show (feetL r)[k]? = _
    rw [feetL_get r k (by simpa using h)]
    rfl
/-- the key of a cell -/
def keyL : List Bool → Nat → Nat → Nat
  | [], _, _ => 0
  | true :: r, x, y => x / 2 ^ nx r % 2 * 2 ^ r.length + keyL r x y
  | false :: r, x, y => y / 2 ^ ny r % 2 * 2 ^ r.length + keyL r x y
def xOf : List Bool → Nat → Nat
  | [], _ => 0
  | true :: r, k => k / 2 ^ r.length % 2 * 2 ^ nx r + xOf r k
  | false :: r, k => xOf r k
def yOf : List Bool → Nat → Nat
  | [], _ => 0
  | true :: r, k => yOf r k
  | false :: r, k => k / 2 ^ r.length % 2 * 2 ^ ny r + yOf r k
theorem bit_lt {d k : Nat} (n : Nat) (hd : d < 2) (hk : k < 2 ^ n) : d * 2 ^ n + k < 2 ^ (n + 1) := by
  have h1 : d * 2 ^ n ≤ 1 * 2 ^ n := Nat.mul_le_mul_right _ (by omega)
  rw [Nat.pow_succ]
  omega
theorem two_pos (n : Nat) : 0 < 2 ^ n := Nat.pow_pos (by decide)
theorem keyL_lt : ∀ (l : List Bool) (x y : Nat), keyL l x y < 2 ^ l.length
  | [], _, _ => Nat.zero_lt_one
  | true :: r, x, y => bit_lt _ (Nat.mod_lt _ (by decide)) (keyL_lt r x y)
  | false :: r, x, y => bit_lt _ (Nat.mod_lt _ (by decide)) (keyL_lt r x y)
theorem xOf_lt : ∀ (l : List Bool) (k : Nat), xOf l k < 2 ^ nx l
  | [], _ => Nat.zero_lt_one
  | true :: r, k => by
    rw [nx_t]
    exact bit_lt _ (Nat.mod_lt _ (by decide)) (xOf_lt r k)
  | false :: r, k => by
    rw [nx_f]
    exact xOf_lt r k
theorem yOf_lt : ∀ (l : List Bool) (k : Nat), yOf l k < 2 ^ ny l
  | [], _ => Nat.zero_lt_one
  | true :: r, k => by
    rw [ny_t]
    exact yOf_lt r k
  | false :: r, k => by
    rw [ny_f]
    exact bit_lt _ (Nat.mod_lt _ (by decide)) (yOf_lt r k)
theorem top_bit {c k : Nat} (n : Nat) : (c * 2 ^ (n + 1) + k) / 2 ^ n % 2 = k / 2 ^ n % 2 := by
  rw [Nat.pow_succ, show c * (2 ^ n * 2) + k = k + 2 ^ n * (2 * c) by
    rw [Nat.mul_comm c, Nat.mul_assoc]
    omega]
  rw [Nat.add_mul_div_left _ _ (two_pos n), Nat.add_mul_mod_self_left]
theorem xOf_high : ∀ (l : List Bool) (c k : Nat), xOf l (c * 2 ^ l.length + k) = xOf l k
  | [], _, _ => rfl
  | true :: r, c, k => by
    show (c * 2 ^ (r.length + 1) + k) / 2 ^ r.length % 2 * 2 ^ nx r + xOf r (c * 2 ^ (r.length + 1) + k) = _
    rw [top_bit, show c * 2 ^ (r.length + 1) = c * 2 * 2 ^ r.length by rw [Nat.pow_succ, Nat.mul_comm (2 ^ r.length), Nat.mul_assoc], xOf_high r]
    rfl
  | false :: r, c, k => by
    show xOf r (c * 2 ^ (r.length + 1) + k) = _
    rw [show c * 2 ^ (r.length + 1) = c * 2 * 2 ^ r.length by rw [Nat.pow_succ, Nat.mul_comm (2 ^ r.length), Nat.mul_assoc], xOf_high r]
    rfl
theorem yOf_high : ∀ (l : List Bool) (c k : Nat), yOf l (c * 2 ^ l.length + k) = yOf l k
  | [], _, _ => rfl
  | false :: r, c, k => by
    show (c * 2 ^ (r.length + 1) + k) / 2 ^ r.length % 2 * 2 ^ ny r + yOf r (c * 2 ^ (r.length + 1) + k) = _
    rw [top_bit, show c * 2 ^ (r.length + 1) = c * 2 * 2 ^ r.length by rw [Nat.pow_succ, Nat.mul_comm (2 ^ r.length), Nat.mul_assoc], yOf_high r]
    rfl
  | true :: r, c, k => by
    show yOf r (c * 2 ^ (r.length + 1) + k) = _
    rw [show c * 2 ^ (r.length + 1) = c * 2 * 2 ^ r.length by rw [Nat.pow_succ, Nat.mul_comm (2 ^ r.length), Nat.mul_assoc], yOf_high r]
    rfl
theorem lead_bit {d k : Nat} (n : Nat) (hd : d < 2) (hk : k < 2 ^ n) : (d * 2 ^ n + k) / 2 ^ n % 2 = d := by
  rw [Nat.add_comm, Nat.add_mul_div_right _ _ (two_pos n), Nat.div_eq_of_lt hk, Nat.zero_add, Nat.mod_eq_of_lt hd]
theorem mod_succ (x n : Nat) : x % 2 ^ (n + 1) = x / 2 ^ n % 2 * 2 ^ n + x % 2 ^ n := by
  rw [Nat.mod_pow_succ, Nat.add_comm, Nat.mul_comm]
theorem xOf_key : ∀ (l : List Bool) (x y : Nat), xOf l (keyL l x y) = x % 2 ^ nx l
  | [], x, _ => by
    rw [nx_nil, Nat.pow_zero, Nat.mod_one]
    rfl
  | true :: r, x, y => by
    show (x / 2 ^ nx r % 2 * 2 ^ r.length + keyL r x y) / 2 ^ r.length % 2 * 2 ^ nx r + xOf r (x / 2 ^ nx r % 2 * 2 ^ r.length + keyL r x y) = _
    rw [lead_bit _ (Nat.mod_lt _ (by decide)) (keyL_lt r x y), xOf_high, xOf_key r, nx_t, mod_succ]
  | false :: r, x, y => by
    show xOf r (y / 2 ^ ny r % 2 * 2 ^ r.length + keyL r x y) = _
    rw [xOf_high, xOf_key r, nx_f]
theorem yOf_key : ∀ (l : List Bool) (x y : Nat), yOf l (keyL l x y) = y % 2 ^ ny l
  | [], x, y => by
    rw [ny_nil, Nat.pow_zero, Nat.mod_one]
    rfl
  | false :: r, x, y => by
    show (y / 2 ^ ny r % 2 * 2 ^ r.length + keyL r x y) / 2 ^ r.length % 2 * 2 ^ ny r + yOf r (y / 2 ^ ny r % 2 * 2 ^ r.length + keyL r x y) = _
    rw [lead_bit _ (Nat.mod_lt _ (by decide)) (keyL_lt r x y), yOf_high, yOf_key r, ny_f, mod_succ]
  | true :: r, x, y => by
    show yOf r (x / 2 ^ nx r % 2 * 2 ^ r.length + keyL r x y) = _
    rw [yOf_high, yOf_key r, ny_t]
/-- a key hangs on the low digits alone -/
theorem digit_high {c x : Nat} {n m : Nat} (h : n < m) : (c * 2 ^ m + x) / 2 ^ n % 2 = x / 2 ^ n % 2 := by
  obtain ⟨d, rfl⟩ : ∃ d, m = d + (n + 1) := ⟨m - (n + 1), by omega⟩
  rw [Nat.pow_add, ← Nat.mul_assoc]
  exact top_bit n
theorem keyL_high : ∀ (l : List Bool) (c d x y n m : Nat), nx l ≤ n → ny l ≤ m → keyL l (c * 2 ^ n + x) (d * 2 ^ m + y) = keyL l x y
  | [], _, _, _, _, _, _, _, _ => rfl
  | true :: r, c, d, x, y, n, m, hn, hm => by
    rw [nx_t] at hn
    rw [ny_t] at hm
    show (c * 2 ^ n + x) / 2 ^ nx r % 2 * 2 ^ r.length + keyL r (c * 2 ^ n + x) (d * 2 ^ m + y) = _
    rw [digit_high (by omega), keyL_high r c d x y n m (by omega) hm]
    rfl
  | false :: r, c, d, x, y, n, m, hn, hm => by
    rw [nx_f] at hn
    rw [ny_f] at hm
    show (d * 2 ^ m + y) / 2 ^ ny r % 2 * 2 ^ r.length + keyL r (c * 2 ^ n + x) (d * 2 ^ m + y) = _
    rw [digit_high (by omega), keyL_high r c d x y n m hn (by omega)]
    rfl
theorem keyL_mod (l : List Bool) (x y : Nat) : keyL l x y = keyL l (x % 2 ^ nx l) (y % 2 ^ ny l) := by
  have h := keyL_high l (x / 2 ^ nx l) (y / 2 ^ ny l) (x % 2 ^ nx l) (y % 2 ^ ny l) (nx l) (ny l) (Nat.le_refl _) (Nat.le_refl _)
  rw [Nat.mul_comm, Nat.div_add_mod, Nat.mul_comm, Nat.div_add_mod] at h
  exact h
/-- two words, one behind the other -/
theorem keyL_app : ∀ (a b : List Bool) (x y : Nat), keyL (a ++ b) x y = keyL a (x / 2 ^ nx b) (y / 2 ^ ny b) * 2 ^ b.length + keyL b x y
  | [], b, x, y => by
    show keyL b x y = 0 * 2 ^ b.length + keyL b x y
    rw [Nat.zero_mul, Nat.zero_add]
  | true :: r, b, x, y => by
    show x / 2 ^ nx (r ++ b) % 2 * 2 ^ (r ++ b).length + keyL (r ++ b) x y = (x / 2 ^ nx b / 2 ^ nx r % 2 * 2 ^ r.length + keyL r (x / 2 ^ nx b) (y / 2 ^ ny b)) * 2 ^ b.length + keyL b x y
    rw [keyL_app r b, nx_app, List.length_append, Nat.div_div_eq_div_mul, ← Nat.pow_add, Nat.add_comm (nx b), Nat.add_mul, Nat.pow_add 2 r.length, Nat.mul_assoc]
    omega
  | false :: r, b, x, y => by
    show y / 2 ^ ny (r ++ b) % 2 * 2 ^ (r ++ b).length + keyL (r ++ b) x y = (y / 2 ^ ny b / 2 ^ ny r % 2 * 2 ^ r.length + keyL r (x / 2 ^ nx b) (y / 2 ^ ny b)) * 2 ^ b.length + keyL b x y
    rw [keyL_app r b, ny_app, List.length_append, Nat.div_div_eq_div_mul, ← Nat.pow_add, Nat.add_comm (ny b), Nat.add_mul, Nat.pow_add 2 r.length, Nat.mul_assoc]
    omega
theorem keyL_rt : ∀ (n x y : Nat), keyL (List.replicate n true) x y = x % 2 ^ n
  | 0, x, y => by
    rw [Nat.pow_zero, Nat.mod_one]
    rfl
  | n + 1, x, y => by
    rw [List.replicate_succ]
    show x / 2 ^ nx (List.replicate n true) % 2 * 2 ^ (List.replicate n true).length + keyL (List.replicate n true) x y = _
    rw [nx_rt, List.length_replicate, keyL_rt n, mod_succ]
theorem keyL_rf : ∀ (n x y : Nat), keyL (List.replicate n false) x y = y % 2 ^ n
  | 0, x, y => by
    rw [Nat.pow_zero, Nat.mod_one]
    rfl
  | n + 1, x, y => by
    rw [List.replicate_succ]
    show y / 2 ^ ny (List.replicate n false) % 2 * 2 ^ (List.replicate n false).length + keyL (List.replicate n false) x y = _
    rw [ny_rf, List.length_replicate, keyL_rf n, mod_succ]
def rowsL (n m : Nat) : List Bool := List.replicate m false ++ List.replicate n true
def colsL (n m : Nat) : List Bool := List.replicate n true ++ List.replicate m false
theorem nx_rows (n m : Nat) : nx (rowsL n m) = n := by rw [rowsL, nx_app, nx_rf, nx_rt, Nat.zero_add]
theorem ny_rows (n m : Nat) : ny (rowsL n m) = m := by rw [rowsL, ny_app, ny_rf, ny_rt, Nat.add_zero]
theorem nx_cols (n m : Nat) : nx (colsL n m) = n := by rw [colsL, nx_app, nx_rf, nx_rt, Nat.add_zero]
theorem ny_cols (n m : Nat) : ny (colsL n m) = m := by rw [colsL, ny_app, ny_rf, ny_rt, Nat.zero_add]
theorem len_rows (n m : Nat) : (rowsL n m).length = n + m := by rw [← nxy, nx_rows, ny_rows]
theorem len_cols (n m : Nat) : (colsL n m).length = n + m := by rw [← nxy, nx_cols, ny_cols]
theorem key_rows (n m x y : Nat) : keyL (rowsL n m) x y = y % 2 ^ m * 2 ^ n + x % 2 ^ n := by
  rw [rowsL, keyL_app, keyL_rf, keyL_rt, ny_rt, List.length_replicate, Nat.pow_zero, Nat.div_one]
theorem key_cols (n m x y : Nat) : keyL (colsL n m) x y = x % 2 ^ n * 2 ^ m + y % 2 ^ m := by
  rw [colsL, keyL_app, keyL_rf, keyL_rt, nx_rf, List.length_replicate, Nat.pow_zero, Nat.div_one]
/-- the parts of a key as they are summed up -/
theorem keyL_drop (l : List Bool) (k : Nat) (h : k < l.length) (x y : Nat) :
    keyL (l.drop k) x y = (if l[k] = true then x / 2 ^ nx (l.drop (k + 1)) % 2 else y / 2 ^ ny (l.drop (k + 1)) % 2) * 2 ^ (nx (l.drop (k + 1)) + ny (l.drop (k + 1))) + keyL (l.drop (k + 1)) x y := by
  rw [List.drop_eq_getElem_cons h, nxy]
  cases l[k] <;> rfl
theorem xOf_drop (l : List Bool) (k : Nat) (h : k < l.length) (q : Nat) :
    xOf (l.drop k) q = (if l[k] = true then q / 2 ^ (nx (l.drop (k + 1)) + ny (l.drop (k + 1))) % 2 * 2 ^ nx (l.drop (k + 1)) else 0) + xOf (l.drop (k + 1)) q := by
  rw [List.drop_eq_getElem_cons h, nxy]
  cases l[k]
  · rw [if_neg (by decide), Nat.zero_add]
    rfl
  · rfl
theorem yOf_drop (l : List Bool) (k : Nat) (h : k < l.length) (q : Nat) :
    yOf (l.drop k) q = (if l[k] = true then 0 else q / 2 ^ (nx (l.drop (k + 1)) + ny (l.drop (k + 1))) % 2 * 2 ^ ny (l.drop (k + 1))) + yOf (l.drop (k + 1)) q := by
  rw [List.drop_eq_getElem_cons h, nxy]
  cases l[k]
  · rfl
  · rw [if_pos rfl, Nat.zero_add]
    rfl
theorem nx_drop (l : List Bool) (k : Nat) (h : k < l.length) : nx (l.drop k) = nx (l.drop (k + 1)) + (if l[k] = true then 1 else 0) := by
  rw [List.drop_eq_getElem_cons h]
  cases l[k]
  · rw [nx_f]
    rfl
  · rw [nx_t, if_pos rfl]
theorem ny_drop (l : List Bool) (k : Nat) (h : k < l.length) : ny (l.drop k) = ny (l.drop (k + 1)) + (if l[k] = true then 0 else 1) := by
  rw [List.drop_eq_getElem_cons h]
  cases l[k]
  · rw [ny_f, if_neg (by decide)]
  · rw [ny_t]
    rfl
def yxs : Nat → List Bool
  | 0 => []
  | t + 1 => false :: true :: yxs t
theorem flat_yx (t : Nat) : (List.replicate t [false, true]).flatten = yxs t := by
  induction t with
  | zero => rfl
  | succ t ih =>
    rw [List.replicate_succ, List.flatten_cons, ih]
    rfl
theorem yxs_succ (t : Nat) : yxs (t + 1) = yxs t ++ [false, true] := by
  induction t with
  | zero => rfl
  | succ t ih =>
    have e : yxs (t + 1 + 1) = false :: true :: yxs (t + 1) := rfl
    rw [e]
    conv => lhs; rw [ih]
    rfl
theorem nx_yxs (t : Nat) : nx (yxs t) = t := by
  induction t with
  | zero => rfl
  | succ t ih =>
    show nx (false :: true :: yxs t) = _
    rw [nx_f, nx_t, ih]
theorem ny_yxs (t : Nat) : ny (yxs t) = t := by
  induction t with
  | zero => rfl
  | succ t ih =>
    show ny (false :: true :: yxs t) = _
    rw [ny_f, ny_t, ih]
def lacedL (n m : Nat) : List Bool := List.replicate (n - min n m) true ++ List.replicate (m - min n m) false ++ yxs (min n m)
theorem nx_laced (n m : Nat) : nx (lacedL n m) = n := by
  rw [lacedL, nx_app, nx_app, nx_rt, nx_rf, nx_yxs]
  omega
theorem ny_laced (n m : Nat) : ny (lacedL n m) = m := by
  rw [lacedL, ny_app, ny_app, ny_rt, ny_rf, ny_yxs]
  omega
def tiledL (n m a b : Nat) : List Bool := rowsL (n - a) (m - b) ++ rowsL a b
theorem nx_tiled {n m a b : Nat} (ha : a ≤ n) : nx (tiledL n m a b) = n := by
  rw [tiledL, nx_app, nx_rows, nx_rows]
  omega
theorem ny_tiled {n m a b : Nat} (hb : b ≤ m) : ny (tiledL n m a b) = m := by
  rw [tiledL, ny_app, ny_rows, ny_rows]
  omega
theorem key_tiled {n m a b x y : Nat} (ha : a ≤ n) (hb : b ≤ m) (hx : x < 2 ^ n) (hy : y < 2 ^ m) :
    keyL (tiledL n m a b) x y = (y / 2 ^ b * 2 ^ (n - a) + x / 2 ^ a) * 2 ^ (a + b) + (y % 2 ^ b * 2 ^ a + x % 2 ^ a) := by
  rw [tiledL, keyL_app, key_rows, key_rows, nx_rows, ny_rows, len_rows]
  have h1 : y / 2 ^ b < 2 ^ (m - b) := by
    rw [Nat.div_lt_iff_lt_mul (two_pos b), ← Nat.pow_add]
    rw [show m - b + b = m by omega]
    exact hy
  have h2 : x / 2 ^ a < 2 ^ (n - a) := by
    rw [Nat.div_lt_iff_lt_mul (two_pos a), ← Nat.pow_add]
    rw [show n - a + a = n by omega]
    exact hx
  rw [Nat.mod_eq_of_lt h1, Nat.mod_eq_of_lt h2]
theorem tiled00 (n m : Nat) : tiledL n m 0 0 = rowsL n m := by
  show rowsL (n - 0) (m - 0) ++ [] = _
  rw [List.append_nil, Nat.sub_zero, Nat.sub_zero]
theorem tilednm (n m : Nat) : tiledL n m n m = rowsL n m := by
  show rowsL (n - n) (m - m) ++ rowsL n m = _
  rw [Nat.sub_self, Nat.sub_self]
  rfl
theorem ne_nil_of {l : List Bool} (h : 1 ≤ nx l + ny l) : l ≠ [] := by
  intro e
  subst e
  rw [nx_nil, ny_nil] at h
  omega
end Lk

set_option Elab.async false
set_option linter.all false
set_option maxRecDepth 100000
set_option maxHeartbeats 4000000
namespace Lk
open PySem PySem.Spec PyProof.Rows L2
/-! ### the texts of words -/
def sg (b : Bool) : Nat := if b = true then 120 else 121
def wS (l : List Bool) : Str := ⟨(l.map sg).toArray⟩
theorem wS_len (l : List Bool) : (wS l).length = l.length := by simp [wS, Str.length]
theorem wS_x : (("x" : Str)) = wS [true] := by decide +kernel
theorem wS_y : (("y" : Str)) = wS [false] := by decide +kernel
theorem wS_yx : (("yx" : Str)) = wS [false, true] := by decide +kernel
theorem wS_nil : (("" : Str)) = wS [] := by decide +kernel
theorem wS_empty : Str.empty = wS [] := rfl
theorem wS_app (a b : List Bool) : wS a ++ wS b = wS (a ++ b) := by
  show (⟨(a.map sg).toArray ++ (b.map sg).toArray⟩ : Str) = ⟨((a ++ b).map sg).toArray⟩
  rw [List.map_append, List.append_toArray]
theorem sg_inj {a b : Bool} (h : sg a = sg b) : a = b := by
  cases a <;> cases b <;> first | rfl | (exact absurd h (by decide))
theorem map_sg_inj : ∀ {a b : List Bool}, a.map sg = b.map sg → a = b
  | [], [], _ => rfl
  | [], _ :: _, h => by cases h
  | _ :: _, [], h => by cases h
  | x :: a, y :: b, h => by
    injection h with h1 h2
    rw [sg_inj h1, map_sg_inj h2]
theorem wS_inj {a b : List Bool} (h : wS a = wS b) : a = b := by
  have h1 : (a.map sg).toArray = (b.map sg).toArray := congrArg Str.cps h
  exact map_sg_inj (by simpa using h1)
theorem wS_mul (l : List Bool) (n : Nat) : Txt.mul (wS l) (n : Int) = wS (List.replicate n l).flatten := by
  unfold Txt.mul
  by_cases h : (n : Int) < 1
  · have e : n = 0 := by omega
    subst e
    rw [if_pos h]
    rfl
  · rw [if_neg h]
    have key : ∀ (k : Nat) (acc : Array Nat), (List.replicate k (wS l).cps).foldl (· ++ ·) acc = acc ++ ((List.replicate k l).flatten.map sg).toArray := by
      intro k
      induction k with
      | zero => intro acc; simp
      | succ k ih =>
        intro acc
        rw [List.replicate_succ, List.foldl_cons, ih, List.replicate_succ, List.flatten_cons, List.map_append, ← List.append_toArray, Array.append_assoc]
        rfl
    split
    · rename_i hc
      rw [Bool.or_eq_true, beq_iff_eq, beq_iff_eq] at hc
      rcases hc with hc | hc
      · have e : n = 1 := by omega
        subst e
        show wS l = wS (l ++ [])
        rw [List.append_nil]
      · have e : l = [] := by
          rw [wS_len] at hc
          exact List.length_eq_zero_iff.mp hc
        subst e
        have : (List.replicate n ([] : List Bool)).flatten = [] := by simp
        rw [this]
    · show (⟨(List.replicate n (wS l).cps).foldl (· ++ ·) #[]⟩ : Str) = _
      rw [key]
      simp [wS]
theorem flat_one (n : Nat) (b : Bool) : (List.replicate n [b]).flatten = List.replicate n b := by
  induction n with
  | zero => rfl
  | succ n ih =>
    rw [List.replicate_succ, List.flatten_cons, ih, List.replicate_succ]
    rfl
theorem mul_x (n : Nat) : Txt.mul ("x" : Str) (n : Int) = wS (List.replicate n true) := by rw [wS_x, wS_mul, flat_one]
theorem mul_y (n : Nat) : Txt.mul ("y" : Str) (n : Int) = wS (List.replicate n false) := by rw [wS_y, wS_mul, flat_one]
theorem wS_list (l : List Bool) : (wS l).cps.toList = l.map sg := by simp [wS]
theorem count_x (l : List Bool) : Txt.count (wS l) ("x" : Str) = (nx l : Int) := by
  rw [show ("x" : Str) = ⟨#[120]⟩ by decide +kernel, count_cnt, wS_list]
  induction l with
  | nil => rfl
  | cons b r ih =>
    rw [List.map_cons, cnt_cons, ih]
    cases b
    · rw [nx_f, if_neg (by decide)]
      omega
    · rw [nx_t, if_pos (by decide)]
      omega
theorem count_y (l : List Bool) : Txt.count (wS l) ("y" : Str) = (ny l : Int) := by
  rw [show ("y" : Str) = ⟨#[121]⟩ by decide +kernel, count_cnt, wS_list]
  induction l with
  | nil => rfl
  | cons b r ih =>
    rw [List.map_cons, cnt_cons, ih]
    cases b
    · rw [ny_f, if_pos (by decide)]
      omega
    · rw [ny_t, if_neg (by decide)]
      omega
/-- one letter -/
def lt (b : Bool) : Str := ⟨#[sg b]⟩
theorem lt_x : lt true = ("x" : Str) := by decide +kernel
theorem lt_y : lt false = ("y" : Str) := by decide +kernel
theorem lt_is (b : Bool) : decide (V.str (lt b) = V.str ("x" : Str)) = b := by cases b <;> decide +kernel
theorem wS_at (l : List Bool) (k : Nat) (h : k < l.length) : (wS l).cps[k]? = some (sg l[k]) := by
  simp [wS, h]
theorem wS_size (l : List Bool) : (wS l).cps.size = l.length := wS_len l
theorem small_line {n : Nat} (h : n ≤ 100000) : n ≤ sizeLine := Nat.le_trans h (by decide)
theorem small_line' {n : Nat} (h : n ≤ 100000) : n < sizeLine := Nat.lt_of_le_of_lt h (by decide)
theorem hu_of' {X : Cx} {k : Nat} (hr : Room k X.A) : X.A.units + 64 < cLine := hr.units

/-! ### heaps -/
theorem same_new {H H' : Hp} {p : Addr} {o : HO} (e : Same H H') (h : H' p = none) : Same H (upd H' p o) := fun b x q => by
  rw [upd_ne (ne_of_none (e b x q) h)]
  exact e b x q
theorem same_mut {H H' : Hp} {p : Addr} {o : HO} (e : Same H H') (h : H p = none) : Same H (upd H' p o) := fun b x q => by
  rw [upd_ne (ne_of_none q h)]
  exact e b x q
theorem Same.seqT {K : PySem.W.Frag} {H H' : Hp} {a : Addr} {xs : List V} (e : Same H H') (h : SqT K H a xs) : SqT K H' a xs := by
  rcases h with (h | ⟨o, h⟩) | h
  · exact .inl (.inl (e _ _ h))
  · exact .inl (.inr ⟨o, e _ _ h⟩)
  · exact .inr h
/-- all but the object at r -/
def But (r : Addr) (H H' : Hp) : Prop := ∀ b o, b ≠ r → H b = some o → H' b = some o
theorem But.refl {r : Addr} {H : Hp} : But r H H := fun _ _ _ q => q
theorem But.trans {r : Addr} {H H1 H2 : Hp} (a : But r H H1) (b : But r H1 H2) : But r H H2 := fun c o n q => b c o n (a c o n q)
theorem Same.but {r : Addr} {H H' : Hp} (e : Same H H') : But r H H' := fun b o _ q => e b o q
theorem But.upd {r : Addr} {H : Hp} {o : HO} : But r H (upd H r o) := fun b x n q => by
  rw [upd_ne n]
  exact q
theorem But.free {r : Addr} {H H' : Hp} (e : But r H H') {p : Addr} (h : H' p = none) (n : p ≠ r) : H p = none := by
  cases q : H p with
  | none => rfl
  | some o =>
    rw [e p o n q] at h
    cases h
/-- the reel: three numbers; the third is at most n -/
def Reel (H : Hp) (r : Addr) (n : Nat) : Prop := ∃ a b c : Int, H r = some (.lst [.int a, .int b, .int c]) ∧ 0 ≤ a ∧ 0 ≤ b ∧ b < 2 ^ 200 ∧ 0 ≤ c ∧ c ≤ (n : Int)
theorem Reel.same {H H' : Hp} {r : Addr} {n : Nat} (e : Same H H') (h : Reel H r n) : Reel H' r n := by
  obtain ⟨a, b, c, h1, h2⟩ := h
  exact ⟨a, b, c, e _ _ h1, h2⟩
theorem Reel.le {H : Hp} {r : Addr} {n m : Nat} (h : Reel H r n) (hm : n ≤ m) : Reel H r m := by
  obtain ⟨a, b, c, h1, h2, h3, h4, h5, h6⟩ := h
  exact ⟨a, b, c, h1, h2, h3, h4, h5, by omega⟩
/-- a Layout -/
def lf (l : List Bool) : List (Str × V) := [("_word", .str (wS l)), ("_x_bits", .int (nx l)), ("_y_bits", .int (ny l))]
def Lay (C : Addr) (H : Hp) (p : Addr) (l : List Bool) : Prop := ∃ dx, H p = some (.ins C dx (lf l))
theorem Lay.same {C : Addr} {H H' : Hp} {p : Addr} {l : List Bool} (e : Same H H') (h : Lay C H p l) : Lay C H' p l := by
  obtain ⟨dx, h⟩ := h
  exact ⟨dx, e _ _ h⟩
theorem Lay.but {C r : Addr} {H H' : Hp} {p : Addr} {l : List Bool} (e : But r H H') (n : p ≠ r) (h : Lay C H p l) : Lay C H' p l := by
  obtain ⟨dx, h⟩ := h
  exact ⟨dx, e _ _ n h⟩
theorem lf_word (l : List Bool) : (lf l).lookup ("_word" : Str) = some (.str (wS l)) := rfl
theorem lf_x (l : List Bool) : (lf l).lookup ("_x_bits" : Str) = some (.int (nx l)) := rfl
theorem lf_y (l : List Bool) : (lf l).lookup ("_y_bits" : Str) = some (.int (ny l)) := rfl
/-- a word as Layout takes it -/
def GoodW (l : List Bool) : Prop := l ≠ [] ∧ nx l ≤ 100 ∧ ny l ≤ 100
theorem GoodW.len {l : List Bool} (h : GoodW l) : l.length ≤ 200 := by
  have := nxy l
  have := h.2
  omega
theorem good_of {l : List Bool} {n m : Nat} (h1 : nx l = n) (h2 : ny l = m) (hn : n ≤ 100) (hm : m ≤ 100) (h : 1 ≤ n + m) : GoodW l := ⟨ne_nil_of (by omega), by omega, by omega⟩
theorem made_same {C x dx : Addr} {H H' : Hp} (n1 : H x = none) (n2 : H dx = none) (e : But x (upd (upd H dx (.own x)) x (.ins C dx [])) H') : Same H H' := fun b o q => by
  have nb : b ≠ x := ne_of_none q n1
  refine e b o nb ?_
  rw [upd_ne nb, upd_ne (ne_of_none q n2)]
  exact q
theorem len_x : ("x" : Str).length ≤ 1000 := by decide +kernel
theorem len_y : ("y" : Str).length ≤ 1000 := by decide +kernel
theorem len_yx : ("yx" : Str).length ≤ 1000 := by decide +kernel
theorem mul_yx (n : Nat) : Txt.mul ("yx" : Str) (n : Int) = wS (yxs n) := by rw [wS_yx, wS_mul, flat_yx]
theorem add_yx {n m : Nat} (hn : n ≤ 100) (hm : m ≤ 100) : (Txt.mul ("y" : Str) (m : Int)).length + (Txt.mul ("x" : Str) (n : Int)).length ≤ sizeLine := by
  rw [mul_x, mul_y, wS_len, wS_len, List.length_replicate, List.length_replicate]
  exact small_line (by omega)
theorem add_xy {n m : Nat} (hn : n ≤ 100) (hm : m ≤ 100) : (Txt.mul ("x" : Str) (n : Int)).length + (Txt.mul ("y" : Str) (m : Int)).length ≤ sizeLine := by
  rw [mul_x, mul_y, wS_len, wS_len, List.length_replicate, List.length_replicate]
  exact small_line (by omega)
theorem small_pow {k : Nat} (h : k ≤ 1000000) : k < 2 ^ 1000 := Nat.lt_of_le_of_lt h (by decide +kernel)
theorem pw {x : Nat} (h : x ≤ 999) : 2 ^ x < 2 ^ 1000 := Nat.pow_lt_pow_right (by decide) (by omega)
theorem pwl {a n m : Nat} (h : a < 2 ^ n) (hn : n ≤ m) : a < 2 ^ m := Nat.lt_of_lt_of_le h (Nat.pow_le_pow_right (by decide) hn)
theorem cmulN {a b : Nat} (ha : a < 2 ^ 1000) (hb : b < 2 ^ 1000) : CMulW (a : Int) (b : Int) :=
  wide_mul (a := 1000) (b := 1000) (by rw [Int.natAbs_natCast]; exact ha) (by rw [Int.natAbs_natCast]; exact hb) (by decide) (by decide) (by decide)
theorem cdivN {a : Int} {b : Nat} (h0 : 0 < b) (hb : b < 2 ^ 1000) : CDivW a (b : Int) :=
  wide_div (b := 1000) (by omega) (by rw [Int.natAbs_natCast]; exact hb) (by decide) (by decide)
theorem Reel.ne {H : Hp} {r p : Addr} {n : Nat} (h : Reel H r n) (hp : H p = none) : p ≠ r := fun z => by
  obtain ⟨_, _, _, e, _⟩ := h
  rw [z, e] at hp
  cases hp
@[elab_as_elim] theorem to_any {p : Hp → Prop} {H H' : Hp} (e : Same H H') (h : ∀ H2, Same H H2 → p H2) : p H' := h H' e
theorem modNat (a b : Nat) : ((a : Int)).fmod (b : Int) = ((a % b : Nat) : Int) := by
  rw [Int.fmod_eq_emod_of_nonneg _ (by omega)]
  rfl
theorem divNat (a b : Nat) : ((a : Int)) / (b : Int) = ((a / b : Nat) : Int) := rfl
theorem fdivNat (a b : Nat) : ((a : Int)).fdiv (b : Int) = ((a / b : Nat) : Int) := by
  rw [Int.fdiv_eq_ediv_of_nonneg _ (by omega)]
  rfl
theorem join0 : ∀ (ys : List (List Bool)), Txt.join ("" : Str) (ys.map wS) = wS ys.flatten
  | [] => by decide +kernel
  | y :: r => by
    have key : ∀ (r : List (List Bool)) (acc : List Bool), (r.map wS).foldl (fun acc p => acc ++ ("" : Str).cps ++ p.cps) (wS acc).cps = (wS (acc ++ r.flatten)).cps := by
      intro r
      induction r with
      | nil =>
        intro acc
        simp
      | cons z r ih =>
        intro acc
        have e0 : ("" : Str).cps = #[] := by decide +kernel
        rw [List.map_cons, List.foldl_cons, e0, Array.append_empty]
        have e1 : (wS acc).cps ++ (wS z).cps = (wS (acc ++ z)).cps := congrArg Str.cps (wS_app acc z)
        rw [e1]
        have := ih (acc ++ z)
        rw [e0] at this
        rw [this, List.flatten_cons, List.append_assoc]
    show (⟨(r.map wS).foldl (fun acc p => acc ++ ("" : Str).cps ++ p.cps) (wS y).cps⟩ : Str) = _
    rw [key r y, List.flatten_cons]
/-- the feet as they stand -/
def FeetAt (H : Hp) (p : Addr) (ts : List Addr) (fl : List (Bool × Nat × Nat)) : Prop :=
  H p = some (.lst (ts.map V.ref)) ∧ ts.length = fl.length ∧ ∀ (k : Nat) (t : Addr) (f : Bool × Nat × Nat), ts[k]? = some t → fl[k]? = some f → H t = some (.tup [.str (lt f.1), .int (f.2.1 : Nat), .int (f.2.2 : Nat)])
theorem FeetAt.same {H H' : Hp} {p : Addr} {ts : List Addr} {fl : List (Bool × Nat × Nat)} (e : Same H H') (h : FeetAt H p ts fl) : FeetAt H' p ts fl :=
  ⟨e _ _ h.1, h.2.1, fun k t f h1 h2 => e _ _ (h.2.2 k t f h1 h2)⟩
theorem iteT' {A B : Prop} {c : Bool} (e : c = true) (h : A) : if c = true then A else B := by
  rw [if_pos e]
  exact h
theorem iteF' {A B : Prop} {c : Bool} (e : c = false) (h : B) : if c = true then A else B := by
  rw [e, if_neg Bool.false_ne_true]
  exact h
end Lk

set_option Elab.async false
set_option linter.all false
set_option maxRecDepth 100000
set_option maxHeartbeats 4000000
namespace Lk
open PySem PySem.Spec PyProof.Rows L2
/-! ### plain data: numbers of a thousand bits, short words -/
def Atm : PyData → Prop
  | .int i => i.natAbs < 2 ^ 1000
  | .str x => ∃ l : List Bool, x = wS l ∧ l.length ≤ 1000
  | .none => True
  | .bool _ => True
  | _ => False
theorem sg_lt (b : Bool) : sg b < 128 := by cases b <;> decide
theorem wS_cp {l : List Bool} {c : Nat} (h : c ∈ (wS l).cps.toList) : c < 128 := by
  rw [wS_list] at h
  obtain ⟨b, _, e⟩ := List.mem_map.mp h
  rw [← e]
  exact sg_lt b
theorem ofString_len (s : String) : (Str.ofString s).length = s.length := by
  rw [Str.ofString_eq_toList]
  show (s.toList.map Char.toNat).toArray.size = _
  rw [List.size_toArray, List.length_map]
  first
    | rfl
    | exact String.length_toList
    | exact s.length_toList
    | exact (String.length_toList s)
theorem atm_ok (d : PyData) (h : Atm d) : d.showable = true ∧ d.hasDict = false ∧ d.depth = 0 ∧ d.canLay0 = true ∧ d.leavesShort 1002 = true ∧ d.weight ≤ 1000 := by
  cases d with
  | none => simp [PyData.showable, PyData.hasDict, PyData.depth, PyData.canLay0, PyData.leavesShort, PyData.weight]
  | bool b => simp [PyData.showable, PyData.hasDict, PyData.depth, PyData.canLay0, PyData.leavesShort, PyData.weight]
  | int i =>
    have h' : i.natAbs < 2 ^ 1000 := h
    have hl : i.natAbs.log2 < 1000 := PySem.Flt.log2_lt_of (by decide) h'
    refine ⟨?_, by simp only [PyData.hasDict], by simp only [PyData.depth], by simp only [PyData.canLay0], ?_, ?_⟩
    · simp only [PyData.showable]
      exact decide_eq_true (by omega)
    · simp only [PyData.leavesShort, PyData.shown]
      refine decide_eq_true ?_
      rw [ofString_len]
      have := int_text_length_le (by decide) hl
      omega
    · simp only [PyData.weight]
      split <;> omega
  | str x =>
    obtain ⟨l, rfl, hl⟩ : ∃ l : List Bool, x = wS l ∧ l.length ≤ 1000 := h
    refine ⟨by simp only [PyData.showable], by simp only [PyData.hasDict], by simp only [PyData.depth], ?_, ?_, ?_⟩
    · simp only [PyData.canLay0]
      show (wS l).cps.all (· < 0x110000) = true
      rw [← Array.all_toList, List.all_eq_true]
      intro c hc
      exact decide_eq_true (Nat.lt_trans (wS_cp hc) (by decide))
    · simp only [PyData.leavesShort]
      rw [List.all_eq_true]
      intro c hc
      exact decide_eq_true (Nat.lt_trans (wS_cp hc) (by decide))
    · simp only [PyData.weight]
      rw [wS_size]
      exact hl
  | list _ => exact h.elim
  | tuple _ => exact h.elim
  | dict _ => exact h.elim
theorem atms_ok : ∀ ds : List PyData, (∀ d ∈ ds, Atm d) → PyData.showableAll ds = true ∧ PyData.hasDictAll ds = false ∧ PyData.depthAll ds = 0 ∧ PyData.canLayAll0 ds = true ∧ PyData.leavesShortAll 1002 ds = true ∧ PyData.weightAll ds ≤ 1001 * ds.length
  | [], _ => by simp [PyData.showableAll, PyData.hasDictAll, PyData.depthAll, PyData.canLayAll0, PyData.leavesShortAll, PyData.weightAll]
  | d :: ds, h => by
    obtain ⟨a1, a2, a3, a4, a5, a6⟩ := atm_ok d (h d List.mem_cons_self)
    obtain ⟨b1, b2, b3, b4, b5, b6⟩ := atms_ok ds fun e he => h e (List.mem_cons_of_mem _ he)
    refine ⟨?_, ?_, ?_, ?_, ?_, ?_⟩
    · simp only [PyData.showableAll, a1, b1, Bool.and_self]
    · simp only [PyData.hasDictAll, a2, b2, Bool.or_self]
    · simp only [PyData.depthAll, a3, b3, Nat.max_self]
    · simp only [PyData.canLayAll0, a4, b4, Bool.and_self]
    · simp only [PyData.leavesShortAll, a5, b5, Bool.and_self]
    · simp only [PyData.weightAll, List.length_cons]
      omega
/-- what repr and == ask of a list or tuple of such -/
def RpOk (d : PyData) : Prop := d.showable = true ∧ d.hasDict = false ∧ d.depth ≤ 8 ∧ d.shown.length ≤ sizeLine
theorem rp_list {ds : List PyData} (h : ∀ d ∈ ds, Atm d) (hl : ds.length ≤ 10) : RpOk (.list ds) := by
  obtain ⟨b1, b2, b3, b4, b5, b6⟩ := atms_ok ds h
  refine ⟨by simpa only [PyData.showable] using b1, by simpa only [PyData.hasDict] using b2, ?_, ?_⟩
  · simp only [PyData.depth, b3]
    omega
  · have s := PyData.shown_le 1002 (by decide) (.list ds) (by simpa only [PyData.leavesShort] using b5)
    have e : (PyData.list ds).weight = PyData.weightAll ds := by simp only [PyData.weight]
    rw [e] at s
    have : sizeLine = 16777216 := sizeLine_eq
    omega
theorem rp_tup {ds : List PyData} (h : ∀ d ∈ ds, Atm d) (hl : ds.length ≤ 10) : RpOk (.tuple ds) := by
  obtain ⟨b1, b2, b3, b4, b5, b6⟩ := atms_ok ds h
  refine ⟨by simpa only [PyData.showable] using b1, by simpa only [PyData.hasDict] using b2, ?_, ?_⟩
  · simp only [PyData.depth, b3]
    omega
  · have s := PyData.shown_le 1002 (by decide) (.tuple ds) (by simpa only [PyData.leavesShort] using b5)
    have e : (PyData.tuple ds).weight = PyData.weightAll ds := by simp only [PyData.weight]
    rw [e] at s
    have : sizeLine = 16777216 := sizeLine_eq
    omega
theorem shaped_list {ds : List PyData} (h : ∀ d ∈ ds, Atm d) : SeqAt.shaped (.list ds) = true := by
  obtain ⟨b1, b2, b3, b4, b5, b6⟩ := atms_ok ds h
  unfold SeqAt.shaped
  rw [Bool.and_eq_true]
  refine ⟨by simpa only [PyData.canLay0] using b4, decide_eq_true ?_⟩
  simp only [PyData.depth, b3]
  omega
theorem shaped_tup {ds : List PyData} (h : ∀ d ∈ ds, Atm d) : SeqAt.shaped (.tuple ds) = true := by
  obtain ⟨b1, b2, b3, b4, b5, b6⟩ := atms_ok ds h
  unfold SeqAt.shaped
  rw [Bool.and_eq_true]
  refine ⟨by simpa only [PyData.canLay0] using b4, decide_eq_true ?_⟩
  simp only [PyData.depth, b3]
  omega
theorem all1 {p : PyData → Prop} {a : PyData} (ha : p a) : ∀ d ∈ [a], p d := fun d hd => by
  rw [List.mem_singleton.mp hd]
  exact ha
theorem allc {p : PyData → Prop} {a : PyData} {r : List PyData} (ha : p a) (hr : ∀ d ∈ r, p d) : ∀ d ∈ a :: r, p d := fun d hd => by
  rcases List.mem_cons.mp hd with e | e
  · rw [e]
    exact ha
  · exact hr d e
theorem alln {p : PyData → Prop} : ∀ d ∈ ([] : List PyData), p d := fun d hd => absurd hd List.not_mem_nil
theorem atm_w {l : List Bool} (h : l.length ≤ 1000) : Atm (.str (wS l)) := ⟨l, rfl, h⟩
theorem atm_n {n : Nat} (h : n < 2 ^ 1000) : Atm (.int (n : Int)) := by
  show (n : Int).natAbs < 2 ^ 1000
  rw [Int.natAbs_natCast]
  exact h
theorem eqv_same {d : PyData} (h : SeqAt.shaped d = true) : PyData.eqv d d = true := SeqAt.eqv_refl d (SeqAt.canLay_of_shaped h)
def cn (l : List Bool) (i : Nat) : Nat := if i = 0 then nx l else ny l
theorem cn_le {l : List Bool} (h : GoodW l) (i : Nat) : cn l i ≤ 100 := by
  unfold cn
  split
  · exact h.2.1
  · exact h.2.2
theorem xy_at {i c : Nat} (h : (("xy" : Str)).cps[i]? = some c) (l : List Bool) : i < 2 ∧ Txt.count (wS l) ⟨#[c]⟩ = ((cn l i : Nat) : Int) := by
  have e : ("xy" : Str) = ⟨#[120, 121]⟩ := by decide +kernel
  rw [e] at h
  rcases i with _ | _ | i
  · have hc : c = 120 := (Option.some.inj h).symm
    subst hc
    refine ⟨by omega, ?_⟩
    rw [show (⟨#[120]⟩ : Str) = ("x" : Str) by decide +kernel, count_x]
    rfl
  · have hc : c = 121 := (Option.some.inj h).symm
    subst hc
    refine ⟨by omega, ?_⟩
    rw [show (⟨#[121]⟩ : Str) = ("y" : Str) by decide +kernel, count_y]
    rfl
  · simp at h
theorem xy_size : (("xy" : Str)).cps.size = 2 := by decide +kernel
theorem eqv2 (a b c d : Int) : PyData.eqv (.list [.int a, .int b]) (.list [.int c, .int d]) = (a == c && b == d) := by
  simp only [PyData.eqv, PyData.eqvAll, Bool.and_true]
def pick (u v ax : Nat) : Nat := if ax = 0 then u else v
theorem at2 {u v ax : Nat} (h : ax ≤ 1) : atI [V.int (u : Int), V.int (v : Int)] (ax : Int) = some (V.int ((pick u v ax : Nat) : Int)) := by
  rcases ax with _ | _ | ax
  · rfl
  · rfl
  · omega
end Lk

set_option Elab.async false
set_option linter.all false
set_option maxRecDepth 100000
set_option maxHeartbeats 4000000
namespace Mi
open PySem PySem.Spec PyProof.Rows L2
/-! ### operations on data -/
section
variable {Γ : Ga} {H0 H G : Hp} {x : V} {d : D}
theorem root_int {i : Int} (h : RM Γ .root H0 H G x (.int i)) : x = .int i := by
  rcases h with h | ⟨a, o, _, _, h⟩
  · cases h; rfl
  · cases h
theorem root_str {s : Str} (h : RM Γ .root H0 H G x (.str s)) : x = .str s := by
  rcases h with h | ⟨a, o, _, _, h⟩
  · cases h; rfl
  · cases h
theorem root_bl {b : Bool} (h : RM Γ .root H0 H G x (.bl b)) : x = .bl b := by
  rcases h with h | ⟨a, o, _, _, h⟩
  · cases h; rfl
  · cases h
theorem root_non (h : RM Γ .root H0 H G x .non) : x = .non := by
  rcases h with h | ⟨a, o, _, _, h⟩
  · cases h; rfl
  · cases h
theorem root_lst {ds : List D} (s : Same G H) (h : RM Γ .root H0 H G x (.lst ds)) : ∃ a vs, x = .ref a ∧ H a = some (.lst vs) ∧ Dts Γ G vs ds := by
  rcases h with h | ⟨a, o, rfl, e, h⟩
  · cases h with
    | lst h r => exact ⟨_, _, rfl, s _ _ h, r⟩
  · cases h with
    | lst r => exact ⟨a, _, rfl, e, r⟩
theorem root_tup {ds : List D} (s : Same G H) (h : RM Γ .root H0 H G x (.tup ds)) : ∃ a vs, x = .ref a ∧ SqT Γ.K G a vs ∧ SqT Γ.K H a vs ∧ Dts Γ G vs ds := by
  rcases h with h | ⟨a, o, rfl, e, h⟩
  · cases h with
    | tup h r => exact ⟨_, _, rfl, h, Same.sqT s h, r⟩
  · cases h
/-- the items of a list -/
def listD : D → Option (List D)
  | .lst ds => some ds
  | .slst ns => some (ns.map .int)
  | _ => none
theorem root_list {ds : List D} (s : Same G H) (h : RM Γ .root H0 H G x d) (e : listD d = some ds) : ∃ a vs, x = .ref a ∧ SqL Γ.K H a vs ∧ Dts Γ G vs ds := by
  cases d with
  | lst ds' =>
    cases e
    obtain ⟨a, vs, h1, h2, h3⟩ := root_lst s h
    exact ⟨a, vs, h1, SqL.of h2, h3⟩
  | slst ns =>
    cases e
    rcases h with h | ⟨a, o, _, _, h⟩
    · cases h with
      | slst h => exact ⟨_, _, rfl, s.seq h, Dts.ints ns⟩
    · cases h
  | _ => cases e
end
/-- a list of ints -/
def intsD : List D → Option (List Int)
  | [] => some []
  | .int i :: r => (intsD r).map (i :: ·)
  | _ => none
theorem intsD_eq : ∀ {ds : List D} {ns : List Int}, intsD ds = some ns → ds = ns.map .int
  | [], _, h => by cases h; rfl
  | .int i :: r, _, h => by
    unfold intsD at h
    obtain ⟨ms, h1, rfl⟩ := Option.map_eq_some_iff.mp h
    rw [intsD_eq h1]
    rfl
  | .non :: _, _, h => by cases h
  | .bl _ :: _, _, h => by cases h
  | .str _ :: _, _, h => by cases h
  | .ty _ :: _, _, h => by cases h
  | .cls _ :: _, _, h => by cases h
  | .tup _ :: _, _, h => by cases h
  | .lst _ :: _, _, h => by cases h
  | .slst _ :: _, _, h => by cases h
  | .dic _ :: _, _, h => by cases h
  | .dit _ :: _, _, h => by cases h
  | .ins _ _ :: _, _, h => by cases h
  | .exc _ _ :: _, _, h => by cases h
@[simp] theorem intsD_map : ∀ ns : List Int, intsD (ns.map .int) = some ns
  | [] => rfl
  | n :: ns => by
    show (intsD (ns.map .int)).map (n :: ·) = _
    rw [intsD_map ns]
    rfl
def blsD : List D → Option (List Bool)
  | [] => some []
  | .bl i :: r => (blsD r).map (i :: ·)
  | _ => none
theorem blsD_eq : ∀ {ds : List D} {ns : List Bool}, blsD ds = some ns → ds = ns.map .bl
  | [], _, h => by cases h; rfl
  | .bl i :: r, _, h => by
    unfold blsD at h
    obtain ⟨ms, h1, rfl⟩ := Option.map_eq_some_iff.mp h
    rw [blsD_eq h1]
    rfl
  | .non :: _, _, h => by cases h
  | .int _ :: _, _, h => by cases h
  | .str _ :: _, _, h => by cases h
  | .ty _ :: _, _, h => by cases h
  | .cls _ :: _, _, h => by cases h
  | .tup _ :: _, _, h => by cases h
  | .lst _ :: _, _, h => by cases h
  | .slst _ :: _, _, h => by cases h
  | .dic _ :: _, _, h => by cases h
  | .dit _ :: _, _, h => by cases h
  | .ins _ _ :: _, _, h => by cases h
  | .exc _ _ :: _, _, h => by cases h
@[simp] theorem blsD_map : ∀ ns : List Bool, blsD (ns.map .bl) = some ns
  | [] => rfl
  | n :: ns => by
    show (blsD (ns.map .bl)).map (n :: ·) = _
    rw [blsD_map ns]
    rfl
theorem Dts.bls {Γ : Ga} {H : Hp} : ∀ {v : List V} {ns : List Bool}, Dts Γ H v (ns.map D.bl) → v = ns.map V.bl
  | _, [], h => by cases h; rfl
  | _, n :: ns, h => by
    cases h with
    | cons h r =>
      cases h
      rw [Dts.bls r]
      rfl
/-! #### numbers -/
def subD : D → D → Option D
  | .int a, .int b => some (.int (a - b))
  | _, _ => none
def addD : D → D → Option D
  | .int a, .int b => some (.int (a + b))
  | .str a, .str b => if a.length + b.length ≤ sizeLine then some (.str (a ++ b)) else none
  | .lst a, .lst b => if a.length + b.length ≤ sizeLine then some (.lst (a ++ b)) else none
  | .tup a, .tup b => if a.length + b.length ≤ sizeLine then some (.tup (a ++ b)) else none
  | _, _ => none
def catD : D → D → Option D
  | .lst a, .lst b => if a.length + b.length ≤ sizeLine then some (.lst (a ++ b)) else none
  | _, _ => none
def repC (l : Nat) (n : Int) : Prop := -1000000 ≤ n ∧ n < 1000000 ∧ l * n.toNat ≤ 1000000
noncomputable instance (l : Nat) (n : Int) : Decidable (repC l n) := Classical.propDecidable _
/-- what may be multiplied -/
def mulC (a b : Int) : Prop := (-18446744073709551616 < a ∧ a < 18446744073709551616) ∨ (-18446744073709551616 < b ∧ b < 18446744073709551616) ∨ a.natAbs.log2 + b.natAbs.log2 < 1000000
noncomputable instance (a b : Int) : Decidable (mulC a b) := Classical.propDecidable _
/-- by what may be divided -/
def divC (b : Int) : Prop := 0 < b ∧ b.natAbs.log2 < 9000
noncomputable instance (b : Int) : Decidable (divC b) := Classical.propDecidable _
def shlC (a b : Int) : Prop := 0 ≤ b ∧ ((a.natAbs.log2 + 1 : Nat) : Int) + b ≤ 1000000
noncomputable instance (a b : Int) : Decidable (shlC a b) := Classical.propDecidable _
def powC (a b : Int) : Prop := 0 ≤ b ∧ ((a.natAbs.log2 + 1 : Nat) : Int) * b ≤ 100000
noncomputable instance (a b : Int) : Decidable (powC a b) := Classical.propDecidable _
noncomputable def mulD : D → D → Option D
  | .int a, .int b => if mulC a b then some (.int (a * b)) else none
  | .str a, .int n => if a.length ≤ 1000 ∧ -1000 ≤ n ∧ n ≤ 1000 then some (.str (Txt.mul a n)) else none
  | .lst a, .int n => if repC a.length n then some (.lst (List.replicate n.toNat a).flatten) else none
  | _, _ => none
noncomputable def repD : D → D → Option D
  | .lst a, .int n => if repC a.length n then some (.lst (List.replicate n.toNat a).flatten) else none
  | _, _ => none
def modD : D → D → Option D
  | .int a, .int b => if 0 < b then some (.int (a % b)) else none
  | _, _ => none
noncomputable def divD : D → D → Option D
  | .int a, .int b => if divC b then some (.int (a / b)) else none
  | _, _ => none
noncomputable def powD : D → D → Option D
  | .int a, .int b => if powC a b then some (.int (a ^ b.toNat)) else none
  | _, _ => none
noncomputable def shlD : D → D → Option D
  | .int a, .int b => if shlC a b then some (.int (a * 2 ^ b.toNat)) else none
  | _, _ => none
def shrD : D → D → Option D
  | .int a, .int b => if 0 ≤ b then some (.int (a / 2 ^ b.toNat)) else none
  | _, _ => none
def andD : D → D → Option D
  | .int a, .int b => some (.int (Builtin.bitAnd a b))
  | _, _ => none
def xorD : D → D → Option D
  | .int a, .int b => some (.int (Builtin.bitXor a b))
  | _, _ => none
def negD : D → Option D
  | .int a => some (.int (-a))
  | _ => none
section
variable {Γ : Ga} {X : Cx}
theorem so_int {C : Int → Int → Prop} {g : Int → Int → Int} {op : D → D → Option D} (h : ∀ a b z, op a b = some z → ∃ i j, a = .int i ∧ b = .int j ∧ C i j ∧ z = .int (g i j)) : So2 Γ .full (rI C fun i j => .int (g i j)) op :=
  fun H G x y a b z Q s ha hb e q => by
    obtain ⟨i, j, rfl, rfl, hc, rfl⟩ := h _ _ _ e
    exact ⟨i, j, root_int ha, root_int hb, hc, q _ H G (Ext.refl s) (.int _)⟩
theorem so_int0 {g : Int → Int → Int} {op : D → D → Option D} (h : ∀ a b z, op a b = some z → ∃ i j, a = .int i ∧ b = .int j ∧ z = .int (g i j)) : So2 Γ .full (rI0 fun i j => .int (g i j)) op :=
  fun H G x y a b z Q s ha hb e q => by
    obtain ⟨i, j, rfl, rfl, rfl⟩ := h _ _ _ e
    exact ⟨i, j, root_int ha, root_int hb, q _ H G (Ext.refl s) (.int _)⟩
theorem so_bool0 {g : Int → Int → Bool} {op : D → D → Option D} (h : ∀ a b z, op a b = some z → ∃ i j, a = .int i ∧ b = .int j ∧ z = .bl (g i j)) : So2 Γ .full (rI0 fun i j => .bl (g i j)) op :=
  fun H G x y a b z Q s ha hb e q => by
    obtain ⟨i, j, rfl, rfl, rfl⟩ := h _ _ _ e
    exact ⟨i, j, root_int ha, root_int hb, q _ H G (Ext.refl s) (.bl _)⟩
theorem so_sub : So2 Γ .full (rI0 fun i j => .int (i - j)) subD := so_int0 fun a b z h => by
  unfold subD at h
  split at h
  · exact ⟨_, _, rfl, rfl, (Option.some.inj h).symm⟩
  · cases h
theorem so_mod : So2 Γ .full (rI (fun _ j => 0 < j) fun i j => .int (i % j)) modD := so_int fun a b z h => by
  unfold modD at h
  split at h
  · split at h
    · rename_i hc
      exact ⟨_, _, rfl, rfl, hc, (Option.some.inj h).symm⟩
    · cases h
  · cases h
theorem so_div : So2 Γ .full (rI CDivW fun i j => .int (i / j)) divD := so_int fun a b z h => by
  unfold divD at h
  split at h
  · split at h
    · rename_i hc
      exact ⟨_, _, rfl, rfl, hc, (Option.some.inj h).symm⟩
    · cases h
  · cases h
theorem so_pow : So2 Γ .full (rI Lk.CPowB fun i j => .int (i ^ j.toNat)) powD := so_int fun a b z h => by
  unfold powD at h
  split at h
  · split at h
    · rename_i a b hc
      refine ⟨_, _, rfl, rfl, ⟨a.natAbs.log2 + 1, Nat.lt_log2_self, hc.1, hc.2⟩, (Option.some.inj h).symm⟩
    · cases h
  · cases h
theorem so_shl : So2 Γ .full (rI CShl fun i j => .int (i * 2 ^ j.toNat)) shlD := so_int fun a b z h => by
  unfold shlD at h
  split at h
  · split at h
    · rename_i a b hc
      refine ⟨_, _, rfl, rfl, ⟨hc.1, ?_⟩, (Option.some.inj h).symm⟩
      have h1 : Builtin.Int.intBits a ≤ a.natAbs.log2 + 1 := intBits_le Nat.lt_log2_self
      have h2 := hc.2
      omega
    · cases h
  · cases h
theorem so_shr : So2 Γ .full (rI (fun _ j => 0 ≤ j) fun i j => .int (i / 2 ^ j.toNat)) shrD := so_int fun a b z h => by
  unfold shrD at h
  split at h
  · split at h
    · rename_i hc
      exact ⟨_, _, rfl, rfl, hc, (Option.some.inj h).symm⟩
    · cases h
  · cases h
theorem so_and : So2 Γ .full (rI0 fun i j => .int (Builtin.bitAnd i j)) andD := so_int0 fun a b z h => by
  unfold andD at h
  split at h
  · exact ⟨_, _, rfl, rfl, (Option.some.inj h).symm⟩
  · cases h
theorem so_xor : So2 Γ .full (rI0 fun i j => .int (Builtin.bitXor i j)) xorD := so_int0 fun a b z h => by
  unfold xorD at h
  split at h
  · exact ⟨_, _, rfl, rfl, (Option.some.inj h).symm⟩
  · cases h
theorem so_neg : So1 Γ .full (rU fun i => .int (-i)) negD := fun H G x a z Q s ha e q => by
  unfold negD at e
  split at e
  · cases e
    exact ⟨_, root_int ha, q _ H G (Ext.refl s) (.int _)⟩
  · cases e
/-! #### sums, products of lists too -/
def rAddD (K : PySem.W.Frag) : R2 := fun x y H Q => rI0 (fun i j => .int (i + j)) x y H Q ∨ (∃ i j, x = .str i ∧ y = .str j ∧ i.length + j.length ≤ sizeLine ∧ Q (.str (i ++ j)) H) ∨ rCat x y H Q ∨ rCatA K x y H Q
theorem o_add {K : PySem.W.Frag} (hK : X.K = K := by rfl) : OpR X (binaryOp .Add) (rAddD K) := by
  subst hK
  exact op_add.or (op_add_str.or (op_cat.or op_catA))
theorem so_cat : So2 Γ .own rCat catD := fun H G x y a b z Q s ha hb e q => by
  unfold catD at e
  split at e
  · split at e
    · rename_i a b hc
      cases e
      obtain ⟨p, vs, rfl, h1, h2⟩ := root_lst s ha
      obtain ⟨p2, vs2, rfl, h3, h4⟩ := root_lst s hb
      exact ⟨p, p2, vs, vs2, rfl, rfl, h1, h3, by rw [h2.len, h4.len]; exact hc, fun t nt => q _ _ G (Ext.newOwn s nt) ⟨t, _, rfl, nt, upd_same, free_sub s nt, .lst (h2.app h4)⟩⟩
    · cases e
  · cases e
theorem SqT.in {K : PySem.W.Frag} {H : Hp} {a : Addr} {vs : List V} : SqT K (upd H a (.tup vs)) a vs := .inl (.inl upd_same)
theorem so_add : So2 Γ .full (rAddD Γ.K) addD := fun H G x y a b z Q s ha hb e q => by
  unfold addD at e
  split at e
  · cases e
    exact .inl ⟨_, _, root_int ha, root_int hb, q _ H G (Ext.refl s) (.int _)⟩
  · split at e
    · rename_i hc
      cases e
      exact .inr (.inl ⟨_, _, root_str ha, root_str hb, hc, q _ H G (Ext.refl s) (.str _)⟩)
    · cases e
  · split at e
    · rename_i a b hc
      cases e
      obtain ⟨p, vs, rfl, h1, h2⟩ := root_lst s ha
      obtain ⟨p2, vs2, rfl, h3, h4⟩ := root_lst s hb
      refine .inr (.inr (.inl ⟨p, p2, vs, vs2, rfl, rfl, h1, h3, by rw [h2.len, h4.len]; exact hc, fun t nt => ?_⟩))
      have ex : Ext H G (upd H t (.lst (vs ++ vs2))) (upd G t (.lst (vs ++ vs2))) := Ext.new s nt
      exact q _ _ _ ex (Dt.lst upd_same ((h2.app h4).same ex.st.g))
    · cases e
  · split at e
    · rename_i a b hc
      cases e
      obtain ⟨p, vs, rfl, h0, h1, h2⟩ := root_tup s ha
      obtain ⟨p2, vs2, rfl, h0', h3, h4⟩ := root_tup s hb
      refine .inr (.inr (.inr ⟨p, p2, vs, vs2, rfl, rfl, h1, h3, by rw [h2.len, h4.len]; exact hc, fun z => ?_, fun _ z => ?_, fun _ _ t nt => ?_⟩))
      · subst z
        cases h2
        exact q _ H G (Ext.refl s) (Dt.tup h0' h4)
      · subst z
        cases h4
        rw [List.append_nil] at q
        exact q _ H G (Ext.refl s) (Dt.tup h0 h2)
      · have ex : Ext H G (upd H t (.tup (vs ++ vs2))) (upd G t (.tup (vs ++ vs2))) := Ext.new s nt
        exact q _ _ _ ex (Dt.tup SqT.in ((h2.app h4).same ex.st.g))
    · cases e
  · cases e
def rMulD : R2 := fun x y H Q => rI CMul (fun i j => .int (i * j)) x y H Q ∨ rI CMulW (fun i j => .int (i * j)) x y H Q ∨ Lk.rMulS x y H Q ∨ rRep x y H Q
theorem o_mul : OpR X (binaryOp .Mult) rMulD := op_mul.or (op_mulW.or (Lk.op_mulS.or op_rep))
theorem so_rep : So2 Γ .own rRep repD := fun H G x y a b z Q s ha hb e q => by
  unfold repD at e
  split at e
  · split at e
    · rename_i a n hc
      cases e
      obtain ⟨p, vs, rfl, h1, h2⟩ := root_lst s ha
      obtain ⟨c1, c2, c3⟩ := hc
      refine ⟨p, n, vs, rfl, root_int hb, h1, by omega, by omega, by rw [h2.len]; exact Nat.le_trans c3 (by decide), fun t nt => q _ _ G (Ext.newOwn s nt) ⟨t, _, rfl, nt, upd_same, free_sub s nt, .lst (h2.rep _)⟩⟩
    · cases e
  · cases e
theorem so_mul : So2 Γ .full rMulD mulD := fun H G x y a b z Q s ha hb e q => by
  unfold mulD at e
  split at e
  · split at e
    · rename_i hc
      cases e
      rcases hc with hc | hc | hc
      · exact .inl ⟨_, _, root_int ha, root_int hb, .inl hc, q _ H G (Ext.refl s) (.int _)⟩
      · exact .inl ⟨_, _, root_int ha, root_int hb, .inr hc, q _ H G (Ext.refl s) (.int _)⟩
      · exact .inr (.inl ⟨_, _, root_int ha, root_int hb, hc, q _ H G (Ext.refl s) (.int _)⟩)
    · cases e
  · split at e
    · rename_i hc
      cases e
      exact .inr (.inr (.inl ⟨_, _, root_str ha, root_int hb, hc.1, hc.2.1, hc.2.2, q _ H G (Ext.refl s) (.str _)⟩))
    · cases e
  · split at e
    · rename_i a n hc
      cases e
      obtain ⟨p, vs, rfl, h1, h2⟩ := root_lst s ha
      obtain ⟨c1, c2, c3⟩ := hc
      refine .inr (.inr (.inr ⟨p, n, vs, rfl, root_int hb, h1, by omega, by omega, by rw [h2.len]; exact Nat.le_trans c3 (by decide), fun t nt => ?_⟩))
      have ex : Ext H G (upd H t (.lst (List.replicate n.toNat vs).flatten)) (upd G t (.lst (List.replicate n.toNat vs).flatten)) := Ext.new s nt
      exact q _ _ _ ex (Dt.lst upd_same ((h2.rep _).same ex.st.g))
    · cases e
  · cases e
/-! #### comparisons -/
def ltD : D → D → Option D
  | .int a, .int b => some (.bl (decide (a < b)))
  | _, _ => none
def leD : D → D → Option D
  | .int a, .int b => some (.bl (decide (a ≤ b)))
  | _, _ => none
def gtD : D → D → Option D
  | .int a, .int b => some (.bl (decide (b < a)))
  | _, _ => none
def geD : D → D → Option D
  | .int a, .int b => some (.bl (decide (b ≤ a)))
  | _, _ => none
theorem so_lt : So2 Γ .full (rI0 fun i j => .bl (decide (i < j))) ltD := so_bool0 fun a b z h => by
  unfold ltD at h
  split at h
  · exact ⟨_, _, rfl, rfl, (Option.some.inj h).symm⟩
  · cases h
theorem so_le : So2 Γ .full (rI0 fun i j => .bl (decide (i ≤ j))) leD := so_bool0 fun a b z h => by
  unfold leD at h
  split at h
  · exact ⟨_, _, rfl, rfl, (Option.some.inj h).symm⟩
  · cases h
theorem so_gt : So2 Γ .full (rI0 fun i j => .bl (decide (j < i))) gtD := so_bool0 fun a b z h => by
  unfold gtD at h
  split at h
  · exact ⟨_, _, rfl, rfl, (Option.some.inj h).symm⟩
  · cases h
theorem so_ge : So2 Γ .full (rI0 fun i j => .bl (decide (j ≤ i))) geD := so_bool0 fun a b z h => by
  unfold geD at h
  split at h
  · exact ⟨_, _, rfl, rfl, (Option.some.inj h).symm⟩
  · cases h
def isN : D → Bool
  | .non => true
  | _ => false
theorem isN_dt {H G : Hp} {v : V} {d : D} (h : RM Γ .root H H G v d) : decide (v = .non) = isN d := by
  rcases h with h | ⟨a, o, rfl, _, h⟩
  · cases h <;> first | rfl | (exact decide_eq_false (fun z => by cases z))
  · cases h <;> exact decide_eq_false (fun z => by cases z)
def isD : D → D → Option D
  | d, .non => some (.bl (isN d))
  | _, _ => none
def isntD : D → D → Option D
  | d, .non => some (.bl (!isN d))
  | _, _ => none
theorem so_is : So2 Γ .full (fun x y H Q => y = .non ∧ Q (.bl (decide (x = .non))) H) isD := fun H G x y a b z Q s ha hb e q => by
  unfold isD at e
  split at e
  · cases e
    exact ⟨root_non hb, by rw [isN_dt ha]; exact q _ H G (Ext.refl s) (.bl _)⟩
  · cases e
theorem so_isnt : So2 Γ .full (fun x y H Q => y = .non ∧ Q (.bl (!decide (x = .non))) H) isntD := fun H G x y a b z Q s ha hb e q => by
  unfold isntD at e
  split at e
  · cases e
    exact ⟨root_non hb, by rw [isN_dt ha]; exact q _ H G (Ext.refl s) (.bl _)⟩
  · cases e

mutual
def D.py : D → Option PyData
  | .non => some .none
  | .bl b => some (.bool b)
  | .int i => some (.int i)
  | .str s => some (.str s)
  | .tup ds => (D.pys ds).map .tuple
  | .lst ds => (D.pys ds).map .list
  | .slst ns => some (.list (ns.map .int))
  | _ => none
def D.pys : List D → Option (List PyData)
  | [] => some []
  | d :: ds => (D.py d).bind fun p => (D.pys ds).map (p :: ·)
end
theorem dpAll_ints {H : Hp} : ∀ ns : List Int, DpAll Γ.K H (ns.map V.int) (ns.map PyData.int)
  | [] => .nil
  | n :: ns => .cons (.int n) (dpAll_ints ns)
mutual
theorem py_dt {H : Hp} : ∀ {d : D} {v : V} {p : PyData}, Dt Γ H v d → D.py d = some p → Dp Γ.K H v p
  | .non, _, _, h, e => by cases h; cases e; exact .non
  | .bl b, _, _, h, e => by cases h; cases e; exact .bl b
  | .int b, _, _, h, e => by cases h; cases e; exact .int b
  | .str b, _, _, h, e => by cases h; cases e; exact .str b
  | .tup ds, _, _, h, e => by
    obtain ⟨ps, e1, rfl⟩ := Option.map_eq_some_iff.mp e
    cases h with
    | tup h r => exact .tup h (pys_dt r e1)
  | .lst ds, _, _, h, e => by
    obtain ⟨ps, e1, rfl⟩ := Option.map_eq_some_iff.mp e
    cases h with
    | lst h r => exact .lst (SqL.of h) (pys_dt r e1)
  | .slst ns, _, _, h, e => by
    cases e
    cases h with
    | slst h => exact .lst h (dpAll_ints ns)
  | .ty _, _, _, _, e => by cases e
  | .cls _, _, _, _, e => by cases e
  | .dic _, _, _, _, e => by cases e
  | .dit _, _, _, _, e => by cases e
  | .ins _ _, _, _, _, e => by cases e
  | .exc _ _, _, _, _, e => by cases e
theorem pys_dt {H : Hp} : ∀ {ds : List D} {vs : List V} {ps : List PyData}, Dts Γ H vs ds → D.pys ds = some ps → DpAll Γ.K H vs ps
  | [], _, _, h, e => by cases h; cases e; exact .nil
  | d :: ds, _, _, h, e => by
    obtain ⟨p, e1, e2⟩ := Option.bind_eq_some_iff.mp e
    obtain ⟨ps, e3, rfl⟩ := Option.map_eq_some_iff.mp e2
    cases h with
    | cons h r => exact .cons (py_dt h e1) (pys_dt r e3)
end
theorem py_root {H G : Hp} {d : D} {v : V} {p : PyData} (s : Same G H) (h : RM Γ .root H H G v d) (e : D.py d = some p) : Dp Γ.K H v p := by
  rcases h with h | ⟨a, o, rfl, q, h⟩
  · exact py_dt (h.same s) e
  · cases h with
    | lst r =>
      obtain ⟨ps, e1, rfl⟩ := Option.map_eq_some_iff.mp (show (D.pys _).map PyData.list = some p from e)
      exact .lst (SqL.of q) (pys_dt (r.same s) e1)
    | ins r => cases e
    | dK r => cases e
    | dT r => cases e
/-- == of data -/
def eqB (a b : D) : Option Bool := match a, b with
  | .int i, .int j => some (decide (i = j))
  | .str i, .str j => some (decide (i = j))
  | .bl i, .bl j => some (decide (i = j))
  | a, b => match D.py a, D.py b with
    | some p, some q => if SeqAt.shaped p = true ∧ SeqAt.shaped q = true then some (PyData.eqv p q) else none
    | _, _ => none
def eqD (a b : D) : Option D := (eqB a b).map .bl
def neD (a b : D) : Option D := (eqB a b).map fun c => .bl (!c)
def rEqK (K : PySem.W.Frag) : R2 := fun x y H Q => rEq x y H Q ∨ rEqD K x y H Q
def rNeK (K : PySem.W.Frag) : R2 := fun x y H Q => rNe x y H Q ∨ rNeD K x y H Q
theorem o_eq {K : PySem.W.Frag} (hu : X.A.units + 64 < cLine) (hK : X.K = K := by rfl) : OpR X (compareOp .Eq) (rEqK K) := by
  subst hK
  exact op_eq.or (op_eqD hu)
theorem o_ne {K : PySem.W.Frag} (hu : X.A.units + 64 < cLine) (hK : X.K = K := by rfl) : OpR X (compareOp .NotEq) (rNeK K) := by
  subst hK
  exact op_ne.or (op_neD hu)
theorem eqB_cases {H G : Hp} {x y : V} {a b : D} {c : Bool} (s : Same G H) (ha : RM Γ .root H H G x a) (hb : RM Γ .root H H G y b) (e : eqB a b = some c) :
    (scal x y = true ∧ decide (x = y) = c) ∨ ∃ p q, Dp Γ.K H x p ∧ Dp Γ.K H y q ∧ SeqAt.shaped p = true ∧ SeqAt.shaped q = true ∧ PyData.eqv p q = c := by
  have gen : (match D.py a, D.py b with
    | some p, some q => if SeqAt.shaped p = true ∧ SeqAt.shaped q = true then some (PyData.eqv p q) else none
    | _, _ => none) = some c → ∃ p q, Dp Γ.K H x p ∧ Dp Γ.K H y q ∧ SeqAt.shaped p = true ∧ SeqAt.shaped q = true ∧ PyData.eqv p q = c := by
    intro e
    split at e
    · rename_i p q hp hq
      split at e
      · rename_i hc
        exact ⟨p, q, py_root s ha hp, py_root s hb hq, hc.1, hc.2, Option.some.inj e⟩
      · cases e
    · cases e
  unfold eqB at e
  split at e
  · cases e
    cases root_int ha
    cases root_int hb
    refine .inl ⟨rfl, ?_⟩
    exact decide_eq_decide.mpr ⟨fun z => V.int.inj z, fun z => congrArg _ z⟩
  · cases e
    cases root_str ha
    cases root_str hb
    exact .inl ⟨rfl, decide_eq_decide.mpr ⟨fun z => V.str.inj z, fun z => congrArg _ z⟩⟩
  · cases e
    cases root_bl ha
    cases root_bl hb
    exact .inl ⟨rfl, decide_eq_decide.mpr ⟨fun z => V.bl.inj z, fun z => congrArg _ z⟩⟩
  · exact .inr (gen e)
theorem so_eq : So2 Γ .full (rEqK Γ.K) eqD := fun H G x y a b z Q s ha hb e q => by
  obtain ⟨c, e1, rfl⟩ := Option.map_eq_some_iff.mp e
  have qe := q _ H G (Ext.refl s) (.bl c)
  rcases eqB_cases s ha hb e1 with ⟨h1, h2⟩ | ⟨p, q', h1, h2, h3, h4, h5⟩
  · exact .inl ⟨h1, by rw [h2]; exact qe⟩
  · exact .inr ⟨p, q', h1, h2, h3, h4, by rw [h5]; exact qe⟩
theorem so_ne : So2 Γ .full (rNeK Γ.K) neD := fun H G x y a b z Q s ha hb e q => by
  obtain ⟨c, e1, rfl⟩ := Option.map_eq_some_iff.mp e
  have qe := q _ H G (Ext.refl s) (.bl (!c))
  rcases eqB_cases s ha hb e1 with ⟨h1, h2⟩ | ⟨p, q', h1, h2, h3, h4, h5⟩
  · exact .inl ⟨h1, by rw [h2]; exact qe⟩
  · exact .inr ⟨p, q', h1, h2, h3, h4, by rw [h5]; exact qe⟩
/-! #### places in lists -/
def ixD : D → D → Option D
  | .tup ds, .int i => atI ds i
  | .lst ds, .int i => atI ds i
  | .slst ns, .int i => (atI ns i).map .int
  | .str s, .int i => if s.length ≤ sizeLine then (atI s.cps.toList i).map fun c => .str ⟨#[c]⟩ else none
  | _, _ => none
theorem Dts.at {H : Hp} {vs : List V} {ds : List D} {i : Int} {z : D} (r : Dts Γ H vs ds) (e : atI ds i = some z) : ∃ v, atI vs i = some v ∧ Dt Γ H v z := by
  unfold atI at e ⊢
  rw [r.len]
  obtain ⟨j, h1, h2⟩ := Option.bind_eq_some_iff.mp e
  obtain ⟨v, h3, h4⟩ := r.get h2
  exact ⟨v, by rw [h1]; exact h3, h4⟩
theorem o_ix {K : PySem.W.Frag} (hK : X.K = K := by rfl) : IxR X (rIx K) := by
  subst hK
  exact ix_seq
theorem atI_map {α β : Type} (f : α → β) (xs : List α) (i : Int) : atI (xs.map f) i = (atI xs i).map f := by
  unfold atI
  rw [List.length_map]
  cases ixN xs.length i with
  | none => rfl
  | some j => exact List.getElem?_map ..
theorem so_ix : So2 Γ .full (rIx Γ.K) ixD := fun H G x y a b z Q s ha hb e q => by
  unfold ixD at e
  split at e
  · obtain ⟨p, vs, rfl, _, h1, h2⟩ := root_tup s ha
    obtain ⟨v, h3, h4⟩ := h2.at e
    exact .inr (.inl ⟨p, vs, _, v, rfl, root_int hb, h1, h3, q v H G (Ext.refl s) h4⟩)
  · obtain ⟨p, vs, rfl, h1, h2⟩ := root_lst s ha
    obtain ⟨v, h3, h4⟩ := h2.at e
    exact .inl ⟨p, vs, _, v, rfl, root_int hb, SqL.of h1, h3, q v H G (Ext.refl s) h4⟩
  · obtain ⟨n, e1, rfl⟩ := Option.map_eq_some_iff.mp e
    obtain ⟨p, vs, rfl, h1, h2⟩ := root_list s ha rfl
    have ev := h2.of_ints
    subst ev
    exact .inl ⟨p, _, _, .int n, rfl, root_int hb, h1, by rw [atI_map, e1]; rfl, q _ H G (Ext.refl s) (.int n)⟩
  · split at e
    · rename_i hc
      obtain ⟨c, e1, rfl⟩ := Option.map_eq_some_iff.mp e
      exact .inr (.inr ⟨_, _, c, root_str ha, root_int hb, hc, e1, q _ H G (Ext.refl s) (.str _)⟩)
    · cases e
  · cases e
/-! #### slices -/
def cutD (xs : List D) (lo hi : Option Int) : List D := (xs.drop (HT.sIx xs.length 0 lo)).take (HT.sIx xs.length xs.length hi - HT.sIx xs.length 0 lo)
theorem Dts.cut {H : Hp} {vs : List V} {ds : List D} (r : Dts Γ H vs ds) (lo hi : Option Int) : Dts Γ H (cutV vs lo hi) (cutD ds lo hi) := by
  unfold cutV cutD
  rw [r.len]
  exact (r.drop _).take _
end
end Mi

set_option Elab.async false
set_option linter.all false
set_option maxRecDepth 100000
set_option maxHeartbeats 4000000
namespace Mi
open PySem PySem.Spec PyProof.Rows L2
/-! ### defs -/
inductive RF | ok (d : D) (ds : List D) | ex (x : D) (ds : List D)
abbrev FnD := List D → Option RF
def TA (pm : List Bool) (vs : List V) (a : Addr) : Prop := ∃ i : Nat, pm[i]? = some true ∧ vs[i]? = some (.ref a)
structure RC (Γ : Ga) (pm : List Bool) (vs : List V) (ds : List D) (H G : Hp) : Prop where
  lv : vs.length = pm.length
  ld : ds.length = pm.length
  dat : ∀ (i : Nat) (v : V) (d : D), pm[i]? = some false → vs[i]? = some v → ds[i]? = some d → Dt Γ G v d
  own : ∀ (i : Nat) (v : V) (d : D), pm[i]? = some true → vs[i]? = some v → ds[i]? = some d → ∃ a o, v = .ref a ∧ H a = some o ∧ G a = none ∧ OwnO Γ G o d
  sep : ∀ (i j : Nat) (a : Addr), pm[i]? = some true → pm[j]? = some true → vs[i]? = some (.ref a) → vs[j]? = some (.ref a) → i = j
structure RP (Γ : Ga) (pm : List Bool) (vs : List V) (ds : List D) (H G : Hp) : Prop where
  ld : ds.length = pm.length
  own : ∀ (i : Nat) (v : V) (d : D), pm[i]? = some true → vs[i]? = some v → ds[i]? = some d → ∃ a o, v = .ref a ∧ H a = some o ∧ G a = none ∧ OwnO Γ G o d
def FinF (Γ : Ga) (pm : List Bool) (rm : Md) (vs : List V) (H G : Hp) (Q : VK) (E : XK) : Option RF → Prop
  | none => False
  | some (.ok d ds') => ∀ v H' G', Same G' H' → Stp (TA pm vs) H G H' G' → RP Γ pm vs ds' H' G' → RM Γ rm H H' G' v d → Q v H'
  | some (.ex x ds') => ∀ c dx H' G', Same G' H' → Stp (TA pm vs) H G H' G' → RP Γ pm vs ds' H' G' → Dx Γ H' G' c dx x → E c dx H'
/-- the promise that a def is worth its mirror -/
def spM (Γ : Ga) (pm : List Bool) (rm : Md) (F : FnD) : Sp := fun vs H Q E => ∃ G ds, Same G H ∧ RC Γ pm vs ds H G ∧ FinF Γ pm rm vs H G Q E (F ds)
def outs : List Bool → List D → Env → List D
  | true :: pm, d :: ds, x :: ρ => x.getD d :: outs pm ds ρ
  | _ :: pm, d :: ds, _ :: ρ => d :: outs pm ds ρ
  | _, ds, _ => ds
def runF (pm : List Bool) (fall : Bool) (n : Nat) (body : SM) : FnD := fun ds => match body (ds.map some ++ List.replicate (n - ds.length) none) with
  | some (.nx ρ) => if fall then some (.ok .non (outs pm ds ρ)) else none
  | some (.rt d ρ) => some (.ok d (outs pm ds ρ))
  | some (.ex x ρ) => some (.ex x (outs pm ds ρ))
  | _ => none
def cellsAt (k : Nat) : List Bool → List Nat
  | [] => []
  | true :: pm => k :: cellsAt (k + 1) pm
  | false :: pm => cellsAt (k + 1) pm
theorem mem_cellsAt : ∀ {pm : List Bool} {k i : Nat}, i ∈ cellsAt k pm ↔ ∃ j, i = k + j ∧ pm[j]? = some true
  | [], k, i => by simp [cellsAt]
  | true :: pm, k, i => by
    unfold cellsAt
    rw [List.mem_cons, mem_cellsAt]
    constructor
    · rintro (h | ⟨j, h1, h2⟩)
      · exact ⟨0, by omega, rfl⟩
      · exact ⟨j + 1, by omega, by simpa using h2⟩
    · rintro ⟨j, h1, h2⟩
      cases j with
      | zero => exact .inl (by omega)
      | succ j => exact .inr ⟨j, by omega, by simpa using h2⟩
  | false :: pm, k, i => by
    unfold cellsAt
    rw [mem_cellsAt]
    constructor
    · rintro ⟨j, h1, h2⟩
      exact ⟨j + 1, by omega, by simpa using h2⟩
    · rintro ⟨j, h1, h2⟩
      cases j with
      | zero => simp at h2
      | succ j => exact ⟨j, by omega, by simpa using h2⟩
theorem outs_len : ∀ (pm : List Bool) (ds : List D) (ρ : Env), (outs pm ds ρ).length = ds.length
  | [], ds, ρ => by cases ds <;> rfl
  | true :: pm, [], ρ => rfl
  | true :: pm, d :: ds, [] => rfl
  | true :: pm, d :: ds, x :: ρ => congrArg (· + 1) (outs_len pm ds ρ)
  | false :: pm, [], ρ => rfl
  | false :: pm, d :: ds, [] => rfl
  | false :: pm, d :: ds, x :: ρ => congrArg (· + 1) (outs_len pm ds ρ)
theorem outs_get : ∀ {pm : List Bool} {ds : List D} {ρ : Env} {i : Nat} {d e : D}, pm[i]? = some true → ρ[i]? = some (some e) → (outs pm ds ρ)[i]? = some d → d = e
  | [], _, _, _, _, _, h, _, _ => by simp at h
  | b :: pm, [], ρ, i, d, e, h, h2, h3 => by cases b <;> simp [outs] at h3
  | b :: pm, _ :: _, [], i, d, e, h, h2, h3 => by simp at h2
  | true :: pm, d0 :: ds, x :: ρ, 0, d, e, h, h2, h3 => by
    simp at h2
    subst h2
    simp [outs] at h3
    exact h3.symm
  | false :: pm, d0 :: ds, x :: ρ, 0, d, e, h, h2, h3 => by simp at h
  | true :: pm, d0 :: ds, x :: ρ, i + 1, d, e, h, h2, h3 => outs_get (pm := pm) (ds := ds) (ρ := ρ) (i := i) (by simpa using h) (by simpa using h2) (by simpa [outs] using h3)
  | false :: pm, d0 :: ds, x :: ρ, i + 1, d, e, h, h2, h3 => outs_get (pm := pm) (ds := ds) (ρ := ρ) (i := i) (by simpa using h) (by simpa using h2) (by simpa [outs] using h3)
section
variable {Γ : Ga} {pm : List Bool} {rm : Md} {F : FnD} {vs : List V} {ds : List D} {H G : Hp} {Q : VK} {E : XK}
theorem spM.len (h : spM Γ pm rm F vs H Q E) : vs.length = pm.length := let ⟨_, _, _, rc, _⟩ := h; rc.lv
theorem start_get {N : List Str} {vs : List V} {i : Nat} {v : V} (h : vs[i]? = some v) : (L2.start N vs)[i]? = some (some v) := by
  unfold L2.start
  have hl := (List.getElem?_eq_some_iff.mp h).1
  rw [List.getElem?_append_left (by rw [List.length_map]; exact hl), List.getElem?_map, h]
  rfl
theorem start_some {N : List Str} {vs : List V} {i : Nat} {v : V} (h : (L2.start N vs)[i]? = some (some v)) : vs[i]? = some v := by
  unfold L2.start at h
  by_cases hl : i < vs.length
  · rw [List.getElem?_append_left (by rw [List.length_map]; exact hl), List.getElem?_map] at h
    cases e : vs[i]? with
    | none => rw [e] at h; cases h
    | some u => rw [e] at h; exact Option.some.inj h
  · rw [List.getElem?_append_right (by rw [List.length_map]; omega), List.getElem?_replicate] at h
    split at h <;> cases h
theorem TA_T {N : List Str} {cs : List Nat} (hc : cellsAt 0 pm = cs) {a : Addr} : T cs (L2.start N vs) a ↔ TA pm vs a := by
  subst hc
  constructor
  · rintro ⟨i, hi, h⟩
    obtain ⟨j, h1, h2⟩ := mem_cellsAt.mp hi
    have e : i = j := by omega
    subst e
    exact ⟨i, h2, start_some h⟩
  · rintro ⟨i, h1, h2⟩
    exact ⟨i, mem_cellsAt.mpr ⟨i, by omega, h1⟩, start_get h2⟩
theorem rep_start {N : List Str} {cs : List Nat} {n : Nat} (hc : cellsAt 0 pm = cs) (hn : N.length = n) (s : Same G H) (rc : RC Γ pm vs ds H G) (hv : vs.length ≤ n) : Rep Γ cs (L2.start N vs) H G (ds.map some ++ List.replicate (n - ds.length) none) := by
  have e : ds.length = vs.length := rc.ld.trans rc.lv.symm
  have get : ∀ (i : Nat) (d : D), (ds.map some ++ List.replicate (n - ds.length) none)[i]? = some (some d) → ds[i]? = some d := fun i d h => by
    by_cases hl : i < ds.length
    · rw [List.getElem?_append_left (by rw [List.length_map]; exact hl), List.getElem?_map] at h
      cases e : ds[i]? with
      | none => rw [e] at h; cases h
      | some u => rw [e] at h; exact Option.some.inj h
    · rw [List.getElem?_append_right (by rw [List.length_map]; omega), List.getElem?_replicate] at h
      split at h <;> cases h
  have vget : ∀ (i : Nat) (d : D), ds[i]? = some d → ∃ v, vs[i]? = some v := fun i d h => by
    have hl := (List.getElem?_eq_some_iff.mp h).1
    exact ⟨vs[i]'(by omega), List.getElem?_eq_getElem (by omega)⟩
  have bget : ∀ (i : Nat) (d : D), ds[i]? = some d → pm[i]? = some true ∨ pm[i]? = some false := fun i d h => by
    have hl := (List.getElem?_eq_some_iff.mp h).1
    have hl2 := rc.ld
    rw [List.getElem?_eq_getElem (by omega)]
    cases pm[i]'(by omega)
    · exact .inr rfl
    · exact .inl rfl
  refine ⟨?_, s, fun i h => ?_, fun i d hi h => ?_, fun i d hi h => ?_, fun i j a hi hj h1 h2 => ?_⟩
  · unfold L2.start
    simp only [List.length_append, List.length_map, List.length_replicate]
    omega
  · unfold L2.start
    by_cases hl : i < ds.length
    · rw [List.getElem?_append_left (by rw [List.length_map]; exact hl), List.getElem?_map, List.getElem?_eq_getElem hl] at h
      cases h
    · rw [List.getElem?_append_right (by rw [List.length_map]; omega), List.getElem?_replicate, List.length_map] at h ⊢
      rw [hn, ← e]
      split at h
      · rename_i hc
        rw [if_pos hc]
      · cases h
  · have hd := get i d h
    obtain ⟨v, hv'⟩ := vget i d hd
    have hp : pm[i]? = some false := (bget i d hd).elim (fun z => absurd (by rw [← hc]; exact mem_cellsAt.mpr ⟨i, by omega, z⟩) hi) id
    exact ⟨v, start_get hv', rc.dat i v d hp hv' hd⟩
  · have hd := get i d h
    obtain ⟨v, hv'⟩ := vget i d hd
    rw [← hc] at hi
    obtain ⟨j, q1, q2⟩ := mem_cellsAt.mp hi
    have ej : i = j := by omega
    subst ej
    obtain ⟨a, o, rfl, r⟩ := rc.own i v d q2 hv' hd
    exact ⟨a, o, start_get hv', r⟩
  · rw [← hc] at hi hj
    obtain ⟨i', q1, q2⟩ := mem_cellsAt.mp hi
    obtain ⟨j', q3, q4⟩ := mem_cellsAt.mp hj
    have e1 : i = i' := by omega
    have e2 : j = j' := by omega
    subst e1 e2
    exact rc.sep i j a q2 q4 (start_some h1) (start_some h2)
/-- the cells that came, at the end -/
theorem rp_end {N : List Str} {cs c' : List Nat} {σ' : L2.St} {H' G' : Hp} {ρ' : Env} (hc : cellsAt 0 pm = cs) (hcc : ∀ i ∈ cs, i ∈ c') (rc : RC Γ pm vs ds H G) (rep : Rep Γ c' σ' H' G' ρ') (hf : ∀ i ∈ cs, σ'[i]? = (L2.start N vs)[i]?) : RP Γ pm vs (outs pm ds ρ') H' G' := by
  refine ⟨by rw [outs_len, rc.ld], fun i v d hp hv hd => ?_⟩
  have hi : i ∈ cs := by rw [← hc]; exact mem_cellsAt.mpr ⟨i, by omega, hp⟩
  have hs := (hf i hi).trans (start_get hv)
  obtain ⟨e, a, o, h1, h2, h3, h4, h5⟩ := rep.cell (hcc i hi) hs
  have ed := outs_get hp h2 hd
  subst ed
  exact ⟨a, o, h1, h3, h4, h5⟩
/-- a def's body -/
theorem fn_body {N : List Str} {cs c' : List Nat} {n : Nat} {body : SM} {fall : Bool} (h : spM Γ pm rm (runF pm fall n body) vs H Q E) (hc : cellsAt 0 pm = cs) (hn : N.length = n) (hl : pm.length ≤ n) (hfall : fall = true → rm = .full ∧ ∀ i ∈ cs, i ∈ c') :
    tS Γ (fxOf cs rm E) cs c' body { nx := fun _ H' => Q .non H', rt := Q } (L2.start N vs) H := by
  obtain ⟨G, ds, s, rc, fin⟩ := h
  refine ⟨G, _, rep_start hc hn s rc (by rw [rc.lv]; exact hl), ?_⟩
  unfold runF at fin
  have st : ∀ {H' G' : Hp} {σ' : L2.St} {c1 : List Nat}, StS cs cs c1 (L2.start N vs) H G σ' H' G' → Stp (TA pm vs) H G H' G' := fun q => q.st.mono fun a z => (TA_T hc).mp z
  generalize body (ds.map some ++ List.replicate (n - ds.length) none) = r at fin ⊢
  rcases r with _ | ⟨ρ'⟩ | ⟨d, ρ'⟩ | ⟨ρ'⟩ | ⟨ρ'⟩ | ⟨x, ρ'⟩
  · exact fin
  · dsimp only at fin
    cases fall with
    | false => exact fin.elim
    | true =>
      obtain ⟨hr, hcc⟩ := hfall rfl
      subst hr
      exact fun σ' H' G' rep q => fin .non H' G' rep.sub (st q) (rp_end hc hcc rc rep q.fix) Dt.non
  · exact fun v σ' H' G' rep q rm' => fin v H' G' rep.sub (st q) (rp_end hc (fun _ h => h) rc rep q.fix) rm'
  · exact fin.elim
  · exact fin.elim
  · exact fun c dx σ' H' G' rep q e => fin c dx H' G' rep.sub (st q) (rp_end hc (fun _ h => h) rc rep q.fix) e
end
/-! ### calls -/
def argD : List Kd → List D → Env → List D
  | .cel i :: ks, _ :: ds, ρ => ((ρ[i]?).join.getD .non) :: argD ks ds ρ
  | _ :: ks, d :: ds, ρ => d :: argD ks ds ρ
  | _, _, _ => []
def putC : List Kd → List D → Env → Env
  | .cel i :: ks, d :: ds, ρ => (putC ks ds ρ).set i (some d)
  | _ :: ks, _ :: ds, ρ => putC ks ds ρ
  | _, _, ρ => ρ
def Kd.ic : Kd → Bool
  | .cel _ => true
  | _ => false
def pmOf (ks : List Kd) : List Bool := ks.map Kd.ic
def celsOf : List Kd → List Nat
  | [] => []
  | .cel i :: ks => i :: celsOf ks
  | _ :: ks => celsOf ks
def callR (ks : List Kd) (r : Option RF) (ρ : Env) : Option R := match r with
  | none => none
  | some (.ok d ds') => some (.ok d (putC ks ds' ρ))
  | some (.ex x ds') => some (.ex x (putC ks ds' ρ))
@[simp] theorem callR_ok {ks : List Kd} {d : D} {ds' : List D} {ρ : Env} : callR ks (some (.ok d ds')) ρ = some (.ok d (putC ks ds' ρ)) := rfl
@[simp] theorem callR_ex {ks : List Kd} {d : D} {ds' : List D} {ρ : Env} : callR ks (some (.ex d ds')) ρ = some (.ex d (putC ks ds' ρ)) := rfl
def eCall (F : FnD) (ks : List Kd) (g : EA) : E := fun ρ => aBind (g ρ) fun ds ρ1 => callR ks (F (argD ks ds ρ1)) ρ1
section
variable {Γ : Ga} {cs ts : List Nat} {W : WX} {m : Md} {σ : L2.St} {H G H1 G1 H0 : Hp} {ρ : Env} {Q : VK} {f : E} {g : EA} {X : Cx} {e : Expr} {es : List Expr} {ks : List Kd} {F : FnD} {E0 : XK}
theorem putC_len : ∀ (ks : List Kd) (ds : List D) (ρ : Env), (putC ks ds ρ).length = ρ.length
  | [], _, _ => rfl
  | .cel i :: ks, [], ρ => rfl
  | .cel i :: ks, d :: ds, ρ => by unfold putC; rw [List.length_set]; exact putC_len ks ds ρ
  | .full :: ks, [], ρ => rfl
  | .full :: ks, d :: ds, ρ => putC_len ks ds ρ
  | .own :: ks, [], ρ => rfl
  | .own :: ks, d :: ds, ρ => putC_len ks ds ρ
  | .root :: ks, [], ρ => rfl
  | .root :: ks, d :: ds, ρ => putC_len ks ds ρ
theorem putC_out : ∀ {ks : List Kd} {ds : List D} {ρ : Env} {i : Nat}, i ∉ celsOf ks → (putC ks ds ρ)[i]? = ρ[i]?
  | [], _, _, _, _ => rfl
  | .cel j :: ks, [], ρ, i, _ => rfl
  | .cel j :: ks, d :: ds, ρ, i, h => by
    unfold celsOf at h
    unfold putC
    rw [List.getElem?_set_ne (fun z => h (by rw [z]; exact List.mem_cons_self))]
    exact putC_out fun z => h (List.mem_cons_of_mem _ z)
  | .full :: ks, [], ρ, _, _ => rfl
  | .full :: ks, d :: ds, ρ, _, h => putC_out (ks := ks) h
  | .own :: ks, [], ρ, _, _ => rfl
  | .own :: ks, d :: ds, ρ, _, h => putC_out (ks := ks) h
  | .root :: ks, [], ρ, _, _ => rfl
  | .root :: ks, d :: ds, ρ, _, h => putC_out (ks := ks) h
theorem putC_in : ∀ {ks : List Kd} {ds : List D} {ρ : Env} {i j : Nat} {d : D}, (celsOf ks).Nodup → ks[j]? = some (.cel i) → ds[j]? = some d → i < ρ.length → (putC ks ds ρ)[i]? = some (some d)
  | [], _, _, _, _, _, _, h, _, _ => by simp at h
  | _ :: _, [], _, _, _, _, _, _, h, _ => by simp at h
  | .cel k :: ks, d0 :: ds, ρ, i, 0, d, nd, h, h2, hl => by
    simp at h h2
    subst h h2
    unfold putC
    rw [List.getElem?_set_self (by rw [putC_len]; exact hl)]
  | .cel k :: ks, d0 :: ds, ρ, i, j + 1, d, nd, h, h2, hl => by
    have h' : ks[j]? = some (.cel i) := by simpa using h
    unfold celsOf at nd
    have hm : i ∈ celsOf ks := by
      clear h2 hl nd
      have : ∀ {ks : List Kd} {j : Nat}, ks[j]? = some (.cel i) → i ∈ celsOf ks := by
        intro ks
        induction ks with
        | nil => intro j h; simp at h
        | cons k ks ih =>
          intro j h
          cases j with
          | zero => simp at h; subst h; exact List.mem_cons_self
          | succ j =>
            have := ih (by simpa using h)
            cases k <;> first | exact List.mem_cons_of_mem _ this | exact this
      exact this h'
    unfold putC
    rw [List.getElem?_set_ne (fun z => (List.nodup_cons.mp nd).1 (by rw [z]; exact hm))]
    exact putC_in (List.nodup_cons.mp nd).2 h' (by simpa using h2) hl
  | .full :: ks, d0 :: ds, ρ, i, 0, d, nd, h, h2, hl => by simp at h
  | .full :: ks, d0 :: ds, ρ, i, j + 1, d, nd, h, h2, hl => putC_in (ks := ks) nd (by simpa using h) (by simpa using h2) hl
  | .own :: ks, d0 :: ds, ρ, i, 0, d, nd, h, h2, hl => by simp at h
  | .own :: ks, d0 :: ds, ρ, i, j + 1, d, nd, h, h2, hl => putC_in (ks := ks) nd (by simpa using h) (by simpa using h2) hl
  | .root :: ks, d0 :: ds, ρ, i, 0, d, nd, h, h2, hl => by simp at h
  | .root :: ks, d0 :: ds, ρ, i, j + 1, d, nd, h, h2, hl => putC_in (ks := ks) nd (by simpa using h) (by simpa using h2) hl
theorem RKs.lend : ∀ {ks : List Kd} {vs : List V} {ds : List D}, RKs Γ σ H0 H G ks vs ds → ds.length = ks.length
  | [], [], [], _ => rfl
  | k :: ks, _ :: _, _ :: _, h => congrArg (· + 1) h.2.2.lend
  | [], [], _ :: _, h => h.elim
  | [], _ :: _, _, h => h.elim
  | _ :: _, [], _, h => h.elim
  | _ :: _, _ :: _, [], h => h.elim
theorem RKs.at : ∀ {ks : List Kd} {vs : List V} {ds : List D} {i : Nat} {k : Kd} {v : V} {d : D}, RKs Γ σ H0 H G ks vs ds → ks[i]? = some k → vs[i]? = some v → ds[i]? = some d → RK Γ σ H0 H G k v d
  | [], [], [], _, _, _, _, _, h, _, _ => by simp at h
  | k :: ks, _ :: _, _ :: _, 0, _, _, _, r, h, h2, h3 => by
    simp at h h2 h3
    subst h h2 h3
    exact r.1
  | k :: ks, _ :: _, _ :: _, i + 1, _, _, _, r, h, h2, h3 => r.2.2.at (i := i) (by simpa using h) (by simpa using h2) (by simpa using h3)
  | [], [], _ :: _, _, _, _, _, h, _, _, _ => h.elim
  | [], _ :: _, _, _, _, _, _, h, _, _, _ => h.elim
  | _ :: _, [], _, _, _, _, _, h, _, _, _ => h.elim
  | _ :: _, _ :: _, [], _, _, _, _, h, _, _, _ => h.elim
theorem argD_len : ∀ (ks : List Kd) (ds : List D) (ρ : Env), ds.length = ks.length → (argD ks ds ρ).length = ks.length
  | [], [], _, _ => rfl
  | [], _ :: _, _, h => by simp at h
  | _ :: _, [], _, h => by simp at h
  | .cel i :: ks, d :: ds, ρ, h => congrArg (· + 1) (argD_len ks ds ρ (by simpa using h))
  | .full :: ks, d :: ds, ρ, h => congrArg (· + 1) (argD_len ks ds ρ (by simpa using h))
  | .own :: ks, d :: ds, ρ, h => congrArg (· + 1) (argD_len ks ds ρ (by simpa using h))
  | .root :: ks, d :: ds, ρ, h => congrArg (· + 1) (argD_len ks ds ρ (by simpa using h))
theorem argD_at : ∀ {ks : List Kd} {ds : List D} {ρ : Env} {i : Nat} {d : D}, (argD ks ds ρ)[i]? = some d → ∃ k, ks[i]? = some k ∧ ((∃ j, k = .cel j ∧ d = (ρ[j]?).join.getD .non) ∨ (k.ic = false ∧ ds[i]? = some d))
  | [], [], _, _, _, h => by simp [argD] at h
  | [], _ :: _, _, _, _, h => by simp [argD] at h
  | .cel j :: ks, [], _, _, _, h => by simp [argD] at h
  | .full :: ks, [], _, _, _, h => by simp [argD] at h
  | .own :: ks, [], _, _, _, h => by simp [argD] at h
  | .root :: ks, [], _, _, _, h => by simp [argD] at h
  | .cel j :: ks, d0 :: ds, ρ, 0, d, h => ⟨_, rfl, .inl ⟨j, rfl, by simp [argD] at h; exact h.symm⟩⟩
  | .full :: ks, d0 :: ds, ρ, 0, d, h => ⟨_, rfl, .inr ⟨rfl, by simpa [argD] using h⟩⟩
  | .own :: ks, d0 :: ds, ρ, 0, d, h => ⟨_, rfl, .inr ⟨rfl, by simpa [argD] using h⟩⟩
  | .root :: ks, d0 :: ds, ρ, 0, d, h => ⟨_, rfl, .inr ⟨rfl, by simpa [argD] using h⟩⟩
  | .cel j :: ks, d0 :: ds, ρ, i + 1, d, h => by
    obtain ⟨k, h1, h2⟩ := argD_at (ks := ks) (ds := ds) (ρ := ρ) (i := i) (d := d) (by simpa [argD] using h)
    exact ⟨k, by simpa using h1, by simpa using h2⟩
  | .full :: ks, d0 :: ds, ρ, i + 1, d, h => by
    obtain ⟨k, h1, h2⟩ := argD_at (ks := ks) (ds := ds) (ρ := ρ) (i := i) (d := d) (by simpa [argD] using h)
    exact ⟨k, by simpa using h1, by simpa using h2⟩
  | .own :: ks, d0 :: ds, ρ, i + 1, d, h => by
    obtain ⟨k, h1, h2⟩ := argD_at (ks := ks) (ds := ds) (ρ := ρ) (i := i) (d := d) (by simpa [argD] using h)
    exact ⟨k, by simpa using h1, by simpa using h2⟩
  | .root :: ks, d0 :: ds, ρ, i + 1, d, h => by
    obtain ⟨k, h1, h2⟩ := argD_at (ks := ks) (ds := ds) (ρ := ρ) (i := i) (d := d) (by simpa [argD] using h)
    exact ⟨k, by simpa using h1, by simpa using h2⟩
theorem celsOf_at : ∀ {ks : List Kd} {j i : Nat}, ks[j]? = some (.cel i) → i ∈ celsOf ks
  | [], _, _, h => by simp at h
  | k :: ks, 0, i, h => by
    simp at h
    subst h
    exact List.mem_cons_self
  | k :: ks, j + 1, i, h => by
    have := celsOf_at (ks := ks) (j := j) (i := i) (by simpa using h)
    cases k <;> first | exact List.mem_cons_of_mem _ this | exact this
theorem celsOf_mem : ∀ {ks : List Kd} {i : Nat}, i ∈ celsOf ks → ∃ j : Nat, ks[j]? = some (.cel i)
  | [], _, h => absurd h List.not_mem_nil
  | .cel k :: ks, i, h => by
    unfold celsOf at h
    rcases List.mem_cons.mp h with e | h
    · exact ⟨0, by rw [e]; rfl⟩
    · obtain ⟨j, hj⟩ := celsOf_mem h
      exact ⟨j + 1, by simpa using hj⟩
  | .full :: ks, i, h => let ⟨j, hj⟩ := celsOf_mem (ks := ks) h; ⟨j + 1, by simpa using hj⟩
  | .own :: ks, i, h => let ⟨j, hj⟩ := celsOf_mem (ks := ks) h; ⟨j + 1, by simpa using hj⟩
  | .root :: ks, i, h => let ⟨j, hj⟩ := celsOf_mem (ks := ks) h; ⟨j + 1, by simpa using hj⟩
theorem nodup_cels : ∀ {ks : List Kd} {i j k : Nat}, (celsOf ks).Nodup → ks[i]? = some (.cel k) → ks[j]? = some (.cel k) → i = j
  | [], _, _, _, _, h, _ => by simp at h
  | .cel c :: ks, 0, 0, _, _, _, _ => rfl
  | .cel c :: ks, 0, j + 1, k, nd, h, h2 => by
    simp at h
    subst h
    exact absurd (celsOf_at (ks := ks) (by simpa using h2)) (List.nodup_cons.mp nd).1
  | .cel c :: ks, i + 1, 0, k, nd, h, h2 => by
    simp at h2
    subst h2
    exact absurd (celsOf_at (ks := ks) (by simpa using h)) (List.nodup_cons.mp nd).1
  | .cel c :: ks, i + 1, j + 1, k, nd, h, h2 => congrArg (· + 1) (nodup_cels (ks := ks) (List.nodup_cons.mp nd).2 (by simpa using h) (by simpa using h2))
  | .full :: ks, 0, _, _, _, h, _ => by simp at h
  | .full :: ks, i + 1, 0, _, _, _, h => by simp at h
  | .full :: ks, i + 1, j + 1, k, nd, h, h2 => congrArg (· + 1) (nodup_cels (ks := ks) nd (by simpa using h) (by simpa using h2))
  | .own :: ks, 0, _, _, _, h, _ => by simp at h
  | .own :: ks, i + 1, 0, _, _, _, h => by simp at h
  | .own :: ks, i + 1, j + 1, k, nd, h, h2 => congrArg (· + 1) (nodup_cels (ks := ks) nd (by simpa using h) (by simpa using h2))
  | .root :: ks, 0, _, _, _, h, _ => by simp at h
  | .root :: ks, i + 1, 0, _, _, _, h => by simp at h
  | .root :: ks, i + 1, j + 1, k, nd, h, h2 => congrArg (· + 1) (nodup_cels (ks := ks) nd (by simpa using h) (by simpa using h2))
def Kd.fc : Kd → Bool
  | .full => true
  | .cel _ => true
  | _ => false
/-- at a call: the def's promise from the mirror -/
theorem call_core {vs : List V} {ds : List D} {ρ1 : Env} {r0 : List V} {d0 : List D} {pm0 : List Bool} (rep1 : Rep Γ cs σ H1 G1 ρ1) (rk : RKs Γ σ H H1 G1 ks vs ds) (hk : ∀ k ∈ ks, k.fc = true) (nd : (celsOf ks).Nodup) (hts : ∀ i ∈ celsOf ks, i ∈ ts) (hcs : ∀ i ∈ ts, i ∈ cs)
    (fin : Fin Γ cs ts W m σ H1 G1 Q (callR ks (F (argD ks ds ρ1)) ρ1)) (hE : ∀ c dx H', W c dx σ H' → E0 c dx H') : spM Γ (pmOf ks) m F vs H1 Q E0 := by
  have lv := rk.len
  have ld := rk.lend
  have icOf : ∀ {i : Nat} {b : Bool}, (pmOf ks)[i]? = some b → ∃ k, ks[i]? = some k ∧ k.ic = b := fun {i b} h => by
    unfold pmOf at h
    rw [List.getElem?_map] at h
    cases e : ks[i]? with
    | none => rw [e] at h; cases h
    | some k => rw [e] at h; exact ⟨k, rfl, Option.some.inj h⟩
  have celOf : ∀ {i : Nat}, (pmOf ks)[i]? = some true → ∃ j, ks[i]? = some (.cel j) := fun {i} h => by
    obtain ⟨k, h1, h2⟩ := icOf h
    cases k with
    | cel j => exact ⟨j, h1⟩
    | _ => cases h2
  have atC : ∀ {i j : Nat} {v : V}, ks[i]? = some (.cel j) → vs[i]? = some v → σ[j]? = some (some v) := fun {i j v} h1 h2 => by
    have hi := (List.getElem?_eq_some_iff.mp h1).1
    exact rk.at h1 h2 (List.getElem?_eq_getElem (by omega))
  have inC : ∀ {i j : Nat}, ks[i]? = some (.cel j) → j ∈ cs := fun {i j} h => hcs j (hts j (celsOf_at h))
  have TT : ∀ a, TA (pmOf ks) vs a → T ts σ a := fun a ⟨i, h1, h2⟩ => by
    obtain ⟨j, h3⟩ := celOf h1
    exact ⟨j, hts j (celsOf_at h3), atC h3 h2⟩
  have rc : RC Γ (pmOf ks) vs (argD ks ds ρ1) H1 G1 := by
    refine ⟨by unfold pmOf; rw [List.length_map]; exact lv, by unfold pmOf; rw [List.length_map, argD_len _ _ _ ld], fun i v d h1 h2 h3 => ?_, fun i v d h1 h2 h3 => ?_, fun i j a h1 h2 h3 h4 => ?_⟩
    · obtain ⟨k, q1, q2⟩ := icOf h1
      obtain ⟨k', q3, q4⟩ := argD_at h3
      rw [q1] at q3
      cases q3
      rcases q4 with ⟨j, rfl, _⟩ | ⟨_, q5⟩
      · cases q2
      · have r := rk.at q1 h2 q5
        have hf := hk k (List.mem_of_getElem? q1)
        cases k with
        | full => exact r
        | cel j => cases q2
        | own => cases hf
        | root => cases hf
    · obtain ⟨j, q1⟩ := celOf h1
      obtain ⟨k', q3, q4⟩ := argD_at h3
      rw [q1] at q3
      cases q3
      rcases q4 with ⟨j', e, q5⟩ | ⟨q5, _⟩
      · cases e
        obtain ⟨d', a, o, e1, e2, e3, e4, e5⟩ := rep1.cell (inC q1) (atC q1 h2)
        rw [e2] at q5
        subst q5
        exact ⟨a, o, e1, e3, e4, e5⟩
      · cases q5
    · obtain ⟨i', q1⟩ := celOf h1
      obtain ⟨j', q2⟩ := celOf h2
      have e := rep1.sep i' j' a (inC q1) (inC q2) (atC q1 h3) (atC q2 h4)
      subst e
      exact nodup_cels nd q1 q2
  have back : ∀ {H' G' : Hp} {ds' : List D}, Same G' H' → Stp (TA (pmOf ks) vs) H1 G1 H' G' → RP Γ (pmOf ks) vs ds' H' G' → Rep Γ cs σ H' G' (putC ks ds' ρ1) := fun {H' G' ds'} s st rp => by
    have lds : ds'.length = ks.length := by rw [rp.ld]; unfold pmOf; rw [List.length_map]
    refine ⟨by rw [putC_len]; exact rep1.len, s, fun i h => ?_, fun i d hi h => ?_, fun i d hi h => ?_, rep1.sep⟩
    · by_cases hc : i ∈ celsOf ks
      · obtain ⟨j, hj⟩ := celsOf_mem hc
        have hjl := (List.getElem?_eq_some_iff.mp hj).1
        obtain ⟨d', a, o, e1, e2, e3, e4, e5⟩ := rep1.cell (inC hj) (atC hj (List.getElem?_eq_getElem (by omega)))
        rw [putC_in nd hj (List.getElem?_eq_getElem (by omega)) (List.getElem?_eq_some_iff.mp e2).1] at h
        cases h
      · rw [putC_out hc] at h
        exact rep1.un i h
    · have hc : i ∉ celsOf ks := fun z => hi (hcs i (hts i z))
      rw [putC_out hc] at h
      obtain ⟨v, h1, h2⟩ := rep1.dat i d hi h
      exact ⟨v, h1, h2.same st.g⟩
    · by_cases hc : i ∈ celsOf ks
      · obtain ⟨j, hj⟩ := celsOf_mem hc
        have hjl := (List.getElem?_eq_some_iff.mp hj).1
        have hv : vs[j]? = some (vs[j]'(by omega)) := List.getElem?_eq_getElem (by omega)
        have hd : ds'[j]? = some (ds'[j]'(by omega)) := List.getElem?_eq_getElem (by omega)
        have hs := atC hj hv
        obtain ⟨d', a, o, e1, e2, e3, e4, e5⟩ := rep1.cell hi hs
        rw [putC_in nd hj hd (List.getElem?_eq_some_iff.mp e2).1] at h
        cases h
        have hp : (pmOf ks)[j]? = some true := by unfold pmOf; rw [List.getElem?_map, hj]; rfl
        obtain ⟨a', o', q1, q2, q3, q4⟩ := rp.own j _ _ hp hv hd
        rw [q1] at hs
        exact ⟨a', o', hs, q2, q3, q4⟩
      · rw [putC_out hc] at h
        obtain ⟨a, o, h1, h2, h3, h4⟩ := rep1.own i d hi h
        have nT : ¬ TA (pmOf ks) vs a := fun ⟨j, q1, q2⟩ => by
          obtain ⟨j', q3⟩ := celOf q1
          have e := rep1.sep i j' a hi (inC q3) h1 (atC q3 q2)
          subst e
          exact hc (celsOf_at q3)
        exact ⟨a, o, h1, st.h _ _ h2 nT, st.n a h3 (by rw [h2]; intro z; cases z) nT, h4.same st.g⟩
  refine ⟨G1, _, rep1.sub, rc, ?_⟩
  generalize F (argD ks ds ρ1) = r at fin ⊢
  rcases r with _ | ⟨d, ds'⟩ | ⟨x, ds'⟩
  · exact fin.elim
  · exact fun v H' G' s st rp rm => (show Fin Γ cs ts W m σ H1 G1 Q (some (.ok d (putC ks ds' ρ1))) from fin) v H' G' (back s st rp) (st.mono TT) rm
  · exact fun c dx H' G' s st rp q => hE _ _ _ ((show Fin Γ cs ts W m σ H1 G1 Q (some (.ex x (putC ks ds' ρ1))) from fin) c dx H' G' (back s st rp) (st.mono TT) q)
abbrev W0 : WX := fun _ _ _ _ => False
/-- .. of a def that raises nothing -/
def spM0 (Γ : Ga) (pm : List Bool) (rm : Md) (F : FnD) : Sp := fun vs H Q _ => spM Γ pm rm F vs H Q L2.E0
section
variable {k : Nat} {fa C : Addr} {fd : FuncData} {ps : List Str} {x : Str} {p pos apos : Pos} {o : Expr} {n : String}
/-- f(..), a def of the law's -/
theorem me_callG (Fn : Lk.FnG X.prog X.w X.K X.mg X.base k fa fd ps (spM0 Γ (pmOf ks) m F)) (hgd : X.A.guards = some []) (hr : Room k X.A) (hg : Gl X x) (hm : X.mg x = some (.ref fa)) (hk : PySem.W.keepIn X.K (.ref fa) = true) (hb : Binds X.K fd ps [])
    (ha : PA X (e :: es) (tA Γ cs ts W0 ks g)) (hfc : ∀ k ∈ ks, k.fc = true := by decide) (nd : (celsOf ks).Nodup := by decide) (hts : ∀ i ∈ celsOf ks, i ∈ ts := by decide) (hcs : ∀ i ∈ ts, i ∈ cs := by first | exact nil_sub | exact all_sub)
    (hdb : (x == ("__debug__" : Str)) = false := by decide) (he : starEach (e :: es) X.env = (false, eval e X.env) :: starEach es X.env := by rfl) (hpl : (backTo pos (starEach es X.env)).any (·.1) = false := by rfl) :
    PE X (.Call (.Name x p) (e :: es) [] pos) (tE Γ cs ts W0 m (eCall F ks g)) :=
  PE.imp (Lk.pe_callG Fn hgd hr hg hm hk hb ha (hdb := hdb) (he := he) (hpl := hpl)) fun σ H Q ⟨G, ρ, rep, fin⟩ => ⟨G, ρ, rep, finA_bind fin fun vs ds ρ1 H1 G1 rep1 st1 rk fin1 => by
    rw [List.append_nil]
    exact call_core (r0 := vs) (d0 := ds) (pm0 := []) rep1 rk hfc nd hts hcs (fin1.step st1) fun _ _ _ z => z⟩
/-- f(..), a def that may raise -/
theorem me_callX (Fn : FnOk X.prog X.w X.K X.mg X.base (L2.CX X.prog X.w) k fa fd ps (spM Γ (pmOf ks) m F)) (tk : Takes X W) (hr : Room k X.A) (hg : Gl X x) (hm : X.mg x = some (.ref fa)) (hk : PySem.W.keepIn X.K (.ref fa) = true) (hb : Binds X.K fd ps [])
    (ha : PA X (e :: es) (tA Γ cs ts W ks g)) (hfc : ∀ k ∈ ks, k.fc = true := by decide) (nd : (celsOf ks).Nodup := by decide) (hts : ∀ i ∈ celsOf ks, i ∈ ts := by decide) (hcs : ∀ i ∈ ts, i ∈ cs := by first | exact nil_sub | exact all_sub)
    (hdb : (x == ("__debug__" : Str)) = false := by decide) (he : starEach (e :: es) X.env = (false, eval e X.env) :: starEach es X.env := by rfl) (hpl : (backTo pos (starEach es X.env)).any (·.1) = false := by rfl) :
    PE X (.Call (.Name x p) (e :: es) [] pos) (tE Γ cs ts W m (eCall F ks g)) :=
  PE.imp (pe_callS Fn hr hg hm hk hb (fun σ => passAt tk σ) ha (hdb := hdb) (he := he) (hpl := hpl)) fun σ H Q ⟨G, ρ, rep, fin⟩ => ⟨G, ρ, rep, finA_bind fin fun vs ds ρ1 H1 G1 rep1 st1 rk fin1 =>
    call_core (r0 := vs) (d0 := ds) (pm0 := []) rep1 rk hfc nd hts hcs (fin1.step st1) fun _ _ _ z => z⟩
/-! ### objects -/
/-- what is wanted of an exception hangs on no slots -/
def Flat (W : WX) : Prop := ∀ c d σ σ' H, W c d σ H → W c d σ' H
theorem flat0 : Flat W0 := fun _ _ _ _ _ h => h
theorem flatE {E : XK} : Flat (fun c d _ H => E c d H) := fun _ _ _ _ _ h => h
abbrev EW (W : WX) : XK := fun c d H => ∀ σ, W c d σ H
theorem passW (tk : Takes X W) : Passes (L2.CX X.prog X.w) X (EW W) := fun pins σ H s e s' I c => passes_call tk (fun _ _ σ _ h => h σ) pins σ H s e s' I c
/-- the self of a method call stands ahead of the arguments: .full -/
def eMeth (n : String) (nm : Str) (F : FnD) (ks : List Kd) (f : E) (g : EA) : E := fun ρ => eBind (f ρ) fun d ρ1 => match d with
  | .ins n' fs => if n' = n ∧ fs.lookup nm = none then aBind (g ρ1) fun ds ρ2 => callR (.full :: ks) (F (argD (.full :: ks) (d :: ds) ρ2)) ρ2 else none
  | _ => none
theorem me_meth {pl : Sem Bool} (hn : Γ.ca n = C) (ho : PE X o (tE Γ cs ts W .full f)) (c : Cls X.K C) (hmt : Meth X.K C x fa) (Fn : FnOk X.prog X.w X.K X.mg X.base (L2.CX X.prog X.w) k fa fd ps (spM Γ (pmOf (.full :: ks)) m F)) (tk : Takes X W) (hW : Flat W) (hr : Room k X.A) (hb : Binds X.K fd ps [])
    (ha : PA X (e :: es) (tA Γ cs ts W ks g)) (hfc : ∀ k ∈ ks, k.fc = true := by decide) (nd : (celsOf ks).Nodup := by decide) (hts : ∀ i ∈ celsOf ks, i ∈ ts := by decide) (hcs : ∀ i ∈ ts, i ∈ cs := by first | exact nil_sub | exact all_sub)
    (hst : starEach (e :: es) X.env = (false, eval e X.env) :: starEach es X.env := by rfl) (hpl : (backTo pos (starEach es X.env)).any (·.1) = false := by rfl)
    (ht : eval (.Call (.Attribute o x apos) (e :: es) [] pos) X.env = (do
      let ov ← eval o X.env
      standAt apos.atName
      let (f, first) ← holding [ov] (getMethod ov x pl)
      callWith pos f first (backTo pos (starEach (e :: es) X.env)) (backToKw pos (keywordEach [] X.env))) := by rfl) :
    PE X (.Call (.Attribute o x apos) (e :: es) [] pos) (tE Γ cs ts W m (eMeth n x F ks f g)) :=
  PE.imp (pe_meth (dvs := []) ho c hmt Fn hr hb .nil (passW tk) ha hst hpl ht) fun σ H Q ⟨G, ρ, rep, fin⟩ => ⟨G, ρ, rep, fin_bind all_sub fin fun v d ρ1 H1 G1 rep1 st1 rm fin1 => by
    cases d with
    | ins n' fs =>
      dsimp only at fin1
      split at fin1
      · rename_i hc
        obtain ⟨rfl, hlk⟩ := hc
        cases (show Dt Γ G1 v (.ins n' fs) from rm) with
        | ins h r =>
          refine ⟨_, _, _, rfl, by rw [← hn]; exact rep1.sub _ _ h, r.lookN hlk, G1, ρ1, rep1, finA_bind (fin1.step st1) fun vs ds ρ2 H2 G2 rep2 st2 rk fin2 => ?_⟩
          rw [List.append_nil]
          have rk' : RKs Γ σ H1 H2 G2 (.full :: ks) (V.ref _ :: vs) (.ins n' fs :: ds) := ⟨(Dt.ins h r).same st2.g, fun z => (by cases z), rk⟩
          exact call_core (r0 := vs) (d0 := ds) (pm0 := []) rep2 rk' (fun k hk => (List.mem_cons.mp hk).elim (fun z => by rw [z]; rfl) (hfc k)) nd hts hcs (fin2.step st2) fun c d H' z σ' => hW _ _ _ _ _ z
      · exact fin1.elim
    | _ => exact (show False from fin1).elim⟩
/-- o.f, an attribute -/
def eFld (ns : List String) (nm : Str) (f : E) : E := fun ρ => eBind (f ρ) fun d ρ1 => match d with
  | .ins n fs => if n ∈ ns then lift (fs.lookup nm) ρ1 else none
  | _ => none
theorem root_ins {v : V} {n : String} {fs : List (Str × D)} {H0 : Hp} (s : Same G H) (h : RM Γ .root H0 H G v (.ins n fs)) : ∃ a dx gs, v = .ref a ∧ H a = some (.ins (Γ.ca n) dx gs) ∧ Dfs Γ G gs fs := by
  rcases h with h | ⟨a, o, rfl, e, h⟩
  · cases h with
    | ins h r => exact ⟨_, _, _, rfl, s _ _ h, r⟩
  · cases h with
    | ins r => exact ⟨a, _, _, rfl, e, r⟩
theorem me_fld {ns : List String} {nm : Str} (he : PE X e (tE Γ cs ts W .root f)) (hb : attributeBase e nm X.env (eval e X.env) = eval e X.env) (hc : ∀ n ∈ ns, Cls X.K (Γ.ca n) ∧ NoAttr X.K (Γ.ca n) nm) : PE X (.Attribute e nm pos) (tE Γ cs ts W .full (eFld ns nm f)) :=
  PE.imp (pe_fld he hb) fun σ H Q ⟨G, ρ, rep, fin⟩ => ⟨G, ρ, rep, fin_bind all_sub fin fun v d ρ1 H1 G1 rep1 st1 rm fin1 => by
    cases d with
    | ins n fs =>
      dsimp only at fin1
      split at fin1
      · rename_i hn
        cases q : fs.lookup nm with
        | none => rw [q] at fin1; exact fin1.elim
        | some z =>
          rw [q] at fin1
          obtain ⟨a, dx, gs, rfl, h1, h2⟩ := root_ins rep1.sub rm
          obtain ⟨u, h3, h4⟩ := h2.lookup q
          exact ⟨a, _, dx, gs, u, rfl, h1, (hc n hn).1, (hc n hn).2, h3, (show Fin Γ cs ts W .full σ H G Q (some (.ok z ρ1)) from fin1) u H1 G1 rep1 st1 h4⟩
      · exact fin1.elim
    | _ => exact (show False from fin1).elim⟩
/-- o.f, a property: its getter -/
def eProp (n : String) (F : FnD) (f : E) : E := fun ρ => eBind (f ρ) fun d ρ1 => match d with
  | .ins n' fs => if n' = n then callR [.full] (F [d]) ρ1 else none
  | _ => none
theorem me_prop {nm : Str} {pa : Addr} (hn : Γ.ca n = C) (ho : PE X o (tE Γ cs ts W .full f)) (c : Cls X.K C) (hp : PropOf X.K C nm pa fa) (Fn : FnOk X.prog X.w X.K X.mg X.base (L2.CX X.prog X.w) k fa fd ps (spM Γ [false] m F)) (hE : ∀ d x ds, F [d] ≠ some (.ex x ds)) (hr : Room (k + 1) X.A) (hb : Binds X.K fd ps [])
    (hts : ∀ i ∈ ts, i ∈ cs := by first | exact nil_sub | exact all_sub) (hab : attributeBase o nm X.env (eval o X.env) = eval o X.env := by rfl) : PE X (.Attribute o nm pos) (tE Γ cs ts W m (eProp n F f)) :=
  PE.imp (pe_prop (dvs := []) ho c hp Fn hr hb .nil (passL (X := X.nox)) hab) fun σ H Q ⟨G, ρ, rep, fin⟩ => ⟨G, ρ, rep, fin_bind all_sub fin fun v d ρ1 H1 G1 rep1 st1 rm fin1 => by
    cases d with
    | ins n' fs =>
      dsimp only at fin1
      split at fin1
      · rename_i hc
        subst hc
        have hd := (show Dt Γ G1 v (.ins n' fs) from rm)
        cases hd with
        | ins h r0 =>
          rename_i a0 dx0 fs0
          refine ⟨a0, dx0, fs0, rfl, by rw [← hn]; exact rep1.sub _ _ h, ?_⟩
          have key : ∀ (r : Option RF), F [.ins n' fs] = r → Fin Γ cs ts W m σ H G Q (callR [.full] r ρ1) → spM Γ [false] m F [V.ref a0] H1 Q L2.E0 := by
            intro r hr0 fin2
            refine ⟨G1, [.ins n' fs], rep1.sub, ⟨rfl, rfl, fun i v d h1 h2 h3 => ?_, fun i v d h1 _ _ => ?_, fun i j a h1 _ _ _ => ?_⟩, ?_⟩
            · cases i with
              | zero =>
                cases h2
                cases h3
                exact Dt.ins h r0
              | succ i => simp at h1
            · cases i <;> simp at h1
            · cases i <;> simp at h1
            · rw [hr0]
              rcases r with _ | ⟨d, ds'⟩ | ⟨x, ds'⟩
              · exact fin2
              · intro v H' G' s st rp rm'
                have nT : ∀ a, ¬ TA [false] [V.ref a0] a := fun a ⟨i, q, _⟩ => by cases i <;> simp at q
                have ex : Ext H1 G1 H' G' := ⟨st.mono fun a z => nT a z, s⟩
                have pc : putC [.full] ds' ρ1 = ρ1 := by cases ds' <;> rfl
                have fin3 : Fin Γ cs ts W m σ H G Q (some (.ok d (putC [.full] ds' ρ1))) := fin2
                rw [pc] at fin3
                exact fin3 v H' G' (rep1.ext ex) (st1.tr ex.any) (rm'.back st1.t)
              · exact absurd hr0 (hE _ _ _)
          exact key _ rfl fin1
      · exact fin1.elim
    | _ => exact (show False from fin1).elim⟩
/-- C(..) -/
def eMake (n : String) (F : FnD) (g : EA) : E := fun ρ => aBind (g ρ) fun ds ρ1 => match F (.ins n [] :: ds) with
  | some (.ok .non (d :: _)) => some (.ok d ρ1)
  | some (.ex x _) => some (.ex x ρ1)
  | _ => none
theorem me_make (hn : Γ.ca n = C) (M : Mk X.K C fa) (Fn : FnOk X.prog X.w X.K X.mg X.base (L2.CX X.prog X.w) k fa fd ps (spM Γ (true :: pmOf ks) .full F)) (tk : Takes X W) (hW : Flat W) (hr : Room (k + 1) X.A) (hg : Gl X x) (hm : X.mg x = some (.ref C)) (hb : Binds X.K fd ps [])
    (ha : PA X (e :: es) (tA Γ cs ts W ks g)) (hfc : ∀ k ∈ ks, k = .full := by decide) (hts : ∀ i ∈ ts, i ∈ cs := by first | exact nil_sub | exact all_sub)
    (hdb : (x == ("__debug__" : Str)) = false := by decide) (he : starEach (e :: es) X.env = (false, eval e X.env) :: starEach es X.env := by rfl) (hpl : (backTo pos (starEach es X.env)).any (·.1) = false := by rfl) :
    PE X (.Call (.Name x p) (e :: es) [] pos) (tE Γ cs ts W .own (eMake n F g)) :=
  PE.imp (pe_make (dvs := []) M Fn hr hg hm hb .nil (passW tk) ha (hdb := hdb) (he := he) (hpl := hpl)) fun σ H Q ⟨G, ρ, rep, fin⟩ => ⟨G, ρ, rep, finA_bind fin fun vs ds ρ1 H1 G1 rep1 st1 rk fin1 y dy ny ndy hne => by
    rw [List.append_nil]
    have icF : ∀ {i : Nat} {b : Bool}, (pmOf ks)[i]? = some b → b = false := fun {i b} h => by
      unfold pmOf at h
      rw [List.getElem?_map] at h
      cases e : ks[i]? with
      | none => rw [e] at h; cases h
      | some k =>
        rw [e] at h
        rw [← Option.some.inj h, hfc k (List.mem_of_getElem? e)]
        rfl
    have dts := rk.fulls hfc
    have e1 : Ext H1 G1 (upd H1 dy (.own y)) G1 := Ext.newOwn rep1.sub ndy
    have ny2 : (upd H1 dy (.own y)) y = none := by rw [upd_ne hne.symm]; exact ny
    have e2 : Ext H1 G1 (upd (upd H1 dy (.own y)) y (.ins C dy [])) G1 := e1.trans (Ext.newOwn e1.sub ny2)
    have nT : ∀ a, TA (true :: pmOf ks) (.ref y :: vs) a → a = y := fun a ⟨i, q1, q2⟩ => by
      cases i with
      | zero => cases q2; rfl
      | succ i =>
        have := icF (show (pmOf ks)[i]? = some true by simpa using q1)
        cases this
    have step : ∀ {H' G' : Hp}, Same G' H' → Stp (TA (true :: pmOf ks) (.ref y :: vs)) (upd (upd H1 dy (.own y)) y (.ins C dy [])) G1 H' G' → Ext H1 G1 H' G' := fun {H' G'} s st =>
      ⟨e2.st.trans st fun a z => .inr (by rw [nT a z]; exact ny), s⟩
    refine ⟨G1, .ins n [] :: ds, e2.sub, ⟨?_, ?_, fun i v d h1 h2 h3 => ?_, fun i v d h1 h2 h3 => ?_, fun i j a h1 h2 h3 h4 => ?_⟩, ?_⟩
    · show vs.length + 1 = (pmOf ks).length + 1
      unfold pmOf
      rw [List.length_map, rk.len]
    · show ds.length + 1 = (pmOf ks).length + 1
      unfold pmOf
      rw [List.length_map, rk.lend]
    · cases i with
      | zero => cases h1
      | succ i =>
        obtain ⟨u, q1, q2⟩ := dts.get (show ds[i]? = some d by simpa using h3)
        rw [show vs[i]? = some v by simpa using h2] at q1
        cases q1
        exact q2
    · cases i with
      | zero =>
        cases h2
        cases h3
        rw [← hn]
        exact ⟨y, _, rfl, upd_same, free_sub rep1.sub ny, .ins .nil⟩
      | succ i =>
        have := icF (show (pmOf ks)[i]? = some true by simpa using h1)
        cases this
    · cases i with
      | succ i =>
        have := icF (show (pmOf ks)[i]? = some true by simpa using h1)
        cases this
      | zero =>
        cases j with
        | zero => rfl
        | succ j =>
          have := icF (show (pmOf ks)[j]? = some true by simpa using h2)
          cases this
    · generalize F (.ins n [] :: ds) = r at fin1 ⊢
      rcases r with _ | ⟨d, ds'⟩ | ⟨x, ds'⟩
      · exact fin1.elim
      · cases d with
        | non =>
          cases ds' with
          | nil => exact (show False from fin1).elim
          | cons d ds' =>
            intro v H' G' s st rp rm
            have ex := step s st
            obtain ⟨a, o, q1, q2, q3, q4⟩ := rp.own 0 (.ref y) d rfl rfl rfl
            cases q1
            refine ⟨by cases (show Dt Γ G' v .non from rm); rfl, (show Fin Γ cs ts W .own σ H G Q (some (.ok d ρ1)) from fin1) (.ref y) H' G' (rep1.ext ex) (st1.tr ex.any) ⟨y, o, rfl, ?_, q2, q3, q4⟩⟩
            cases e : H y with
            | none => rfl
            | some u => exact absurd ny (st1.t y (by rw [e]; intro z; cases z))
        | _ => exact (show False from fin1).elim
      · cases ds' with
        | nil =>
          intro c dx H' G' s st rp q
          exact fun σ' => hW _ _ _ _ _ ((show Fin Γ cs ts W .own σ H G Q (some (.ex x ρ1)) from fin1) c dx H' G' (rep1.ext (step s st)) (st1.tr (step s st).any) q)
        | cons d ds' =>
          intro c dx H' G' s st rp q
          exact fun σ' => hW _ _ _ _ _ ((show Fin Γ cs ts W .own σ H G Q (some (.ex x ρ1)) from fin1) c dx H' G' (rep1.ext (step s st)) (st1.tr (step s st).any) q)⟩
/-- o.f = e, o a cell -/
def sFld (i : Nat) (ns : List String) (nm : Str) (f : E) : SM := fun ρ => sBind (f ρ) fun d ρ1 => match ρ1[i]? with
  | some (some (.ins n fs)) => if n ∈ ns ∧ fs.length < 1000 then some (.nx (ρ1.set i (some (.ins n (putD nm d fs))))) else none
  | _ => none
/-- a cell's object is another one from here on -/
theorem Rep.upd (rep : Rep Γ cs σ H G ρ) {i : Nat} (hi : i ∈ cs) {a : Addr} {u : HO} {d d' : D} (hs : σ[i]? = some (some (.ref a))) (hr : ρ[i]? = some (some d)) (ow : OwnO Γ G u d') : Rep Γ cs σ (L2.upd H a u) G (ρ.set i (some d')) := by
  have hl := (List.getElem?_eq_some_iff.mp hr).1
  obtain ⟨a', o, q1, q2, q3, q4⟩ := rep.own i d hi hr
  rw [hs] at q1
  cases q1
  refine ⟨by rw [List.length_set]; exact rep.len, fun b v h => ?_, fun j h => ?_, fun j d2 hj h => ?_, fun j d2 hj h => ?_, rep.sep⟩
  · rw [upd_ne (ne_of_none h q3)]
    exact rep.sub _ _ h
  · by_cases e : i = j
    · subst e
      rw [List.getElem?_set_self hl] at h
      cases h
    · rw [List.getElem?_set_ne e] at h
      exact rep.un j h
  · rw [List.getElem?_set_ne (fun z => hj (by rw [← z]; exact hi))] at h
    exact rep.dat j d2 hj h
  · by_cases e : i = j
    · subst e
      rw [List.getElem?_set_self hl] at h
      cases h
      exact ⟨a, u, hs, upd_same, q3, ow⟩
    · rw [List.getElem?_set_ne e] at h
      obtain ⟨b, o', w1, w2, w3, w4⟩ := rep.own j d2 hj h
      refine ⟨b, o', w1, ?_, w3, w4⟩
      rw [upd_ne]
      · exact w2
      · rintro rfl
        exact e (rep.sep i j b hi hj hs w1)
theorem Stp.upd {i : Nat} (hi : i ∈ ts) {a : Addr} {u : HO} (hs : σ[i]? = some (some (.ref a))) : Stp (T ts σ) H G (L2.upd H a u) G :=
  ⟨Same.refl _, fun b o h n => by
    rw [upd_ne]
    · exact h
    · rintro rfl
      exact n ⟨i, hi, hs⟩, fun b h => by
    by_cases e : b = a
    · rw [e, upd_same]; intro z; cases z
    · rw [upd_ne e]; exact h, fun b h _ _ => h⟩
variable {S : Sx}
theorem ms_fld {i : Nat} {ns : List String} {nm : Str} {value : Expr} {pos' : Pos} (ho : PE X o (tVar i)) (hv : PE X value (tE Γ cs cs S.W .full f)) (hi : i ∈ cs) (hc : ∀ n ∈ ns, Cls X.K (Γ.ca n) ∧ NoAttr X.K (Γ.ca n) nm) (hx : ∀ i ∈ S.xc, i ∈ cs := by first | decide | (dsimp only [fxOf]; decide))
    (hs : swapsWith value (some (.Attribute o nm pos')) pos.line X.env = pure false := by rfl) : PS X (.Assign [.Attribute o nm pos'] value pos) (tS Γ S cs cs (sFld i ns nm f)) :=
  PS.imp (ps_fld ho hv hs) fun D0 σ H ⟨G, ρ, rep, fin⟩ => ⟨G, ρ, rep, finS_bind hx fin fun v d ρ1 H1 G1 rep1 st1 rm fin1 => by
    split at fin1
    · rename_i n fs hq
      split at fin1
      · rename_i hn
        obtain ⟨a, u, h1, h2, h3, h4⟩ := rep1.own i _ hi hq
        cases h4 with
        | ins r =>
          refine ⟨.ref a, h1, a, _, _, _, rfl, h2, (hc n hn.1).1, (hc n hn.1).2, by rw [r.len]; exact hn.2, ?_⟩
          exact fin1 σ _ G1 (rep1.upd hi h1 hq (.ins (r.put rm))) (.of (st1.tr (Stp.upd hi h1)))
      · exact fin1.elim
    · exact fin1.elim⟩
end
end
end Mi

set_option Elab.async false
set_option linter.all false
set_option maxRecDepth 100000
set_option maxHeartbeats 4000000
namespace Lk
open PySem PySem.Spec PyProof.Rows L2
/-! ### a text backwards -/
def tRevS (te : TE) : TE := fun σ H Q => te σ H fun x H1 => ∃ z : Str, x = .str z ∧ z.length ≤ sizeLine ∧ Q (.str ⟨z.cps.reverse⟩) H1
section
variable {X : Cx}
theorem rev_picked (z : Str) : ((Builtin.Str.strSliceIndices none none (-1) z.length).filterMap (z.cps[·]?)).toArray = z.cps.reverse := by
  rw [picked_rev]
  apply Array.ext'
  rw [List.toList_toArray, Array.toList_reverse]
  obtain ⟨⟨l⟩⟩ := z
  show ((List.range l.length).map fun k => l.length - 1 - k).filterMap (fun i => (l.toArray)[i]?) = l.reverse
  apply List.ext_getElem?
  intro i
  rw [filterMap_get]
  · rw [List.map_map, List.getElem?_map]
    by_cases hi : i < l.length
    · rw [List.getElem?_range hi, List.getElem?_reverse hi]
      show some (l.toArray.getD (l.length - 1 - i) 0) = _
      have h2 : l.length - 1 - i < l.length := by omega
      rw [List.getElem?_eq_getElem h2]
      simp [Array.getD, h2]
    · rw [List.getElem?_eq_none (by simpa using hi), List.getElem?_eq_none (by simpa using hi)]
      rfl
  · intro j hj
    obtain ⟨k, hk, rfl⟩ := List.mem_map.mp hj
    have := List.mem_range.mp hk
    show l.length - 1 - k < l.toArray.size
    rw [List.size_toArray]
    omega
theorem pe_revS {e : Expr} {te : TE} {k : Nat} {p1 p2 p3 pos : Pos} (he : PE X e te) : PE X (.Subscript e (.Slice none none (some (.UnaryOp .USub (.Constant (.int 1) k p1) p2)) p3) pos) (tRevS te) := by
  refine ⟨fun pins s0 σ H0 Q I0 h0 => ?_⟩
  refine Subscript_ (thn (he.run pins s0 σ H0 _ I0 h0) fun v s1 got => ?_)
  obtain ⟨x, H1, I1, rx, z, rfl, hz, q⟩ := got
  obtain ⟨t, rfl⟩ := rx
  have minus : PO X (some (.UnaryOp .USub (.Constant (.int 1) k p1) p2)) (tPart (tUn (rU fun i => .int (-i)) (tC (.int 1)))) := po_some (pe_un un_neg pe_int)
  refine wpAny_Slice (thn (po_none.run pins s1 σ H1 (fun o Hx => o = none ∧ Hx = H1) I1 ⟨rfl, rfl⟩) fun va s2 ga => ?_)
  obtain ⟨oa, Ha, Ia, pa, rfl, rfl⟩ := ga
  refine thn (po_none.run pins s2 σ Ha (fun o Hx => o = none ∧ Hx = Ha) Ia ⟨rfl, rfl⟩) fun vb s3 gb => ?_
  obtain ⟨ob, Hb, Ib, pb, rfl, rfl⟩ := gb
  refine thn (minus.run pins s3 σ Hb (fun o Hx => o = some (-1) ∧ Hx = Hb) Ib ⟨1, rfl, -1, rfl, rfl, rfl⟩) fun vc s4 gc => ?_
  obtain ⟨oc, Hc, Ic, pc, rfl, rfl⟩ := gc
  have Id : Inv X pins σ Hc { s4 with heap := s4.heap.push { cls := .type "slice", data := .fields #[va, vb, vc] } } := Ic.kept (t' := s4.toks) fun b ob qq => Heap.get?_push_of_some _ qq
  obtain ⟨la, rfl, ea⟩ := IsPart.raw pa
  obtain ⟨lb, rfl, eb⟩ := IsPart.raw pb
  obtain ⟨lc, rfl, ec⟩ := IsPart.raw pc
  obtain rfl : la = none := by
    cases la with
    | none => rfl
    | some y => cases ea
  obtain rfl : lb = none := by
    cases lb with
    | none => rfl
    | some y => cases eb
  obtain ⟨uu, rfl⟩ : ∃ uu, lc = some (-1, uu) := by
    cases lc with
    | none => cases ec
    | some y =>
      obtain ⟨y1, y2⟩ := y
      have : y1 = -1 := Option.some.inj ec
      subst this
      exact ⟨y2, rfl⟩
  refine tail_any (typeIs_str _ _ _) PySem.F.slot_str_getitem.lookup ?_ (by with_unfolding_all rfl)
  refine wpAny_getItem_str_slice (l := none) (u := none) (st := some (-1, uu)) ⟨_, Heap.get?_push_size _ rfl, rfl, rfl⟩ rfl ?_
  have hp := rev_picked z
  unfold sliceMade
  show Made.post (if ((-1 : Int) == 1 && (Builtin.Str.strSliceIndices none none (-1) z.length).length == z.length) = true then Made.val (.str z t) else Made.str ⟨((Builtin.Str.strSliceIndices none none (-1) z.length).filterMap (z.cps[·]?)).toArray⟩) _ _
  rw [if_neg (by simp), hp]
  refine ⟨?_, .str ⟨z.cps.reverse⟩, Hc, Id.tok _, ⟨_, rfl⟩, q⟩
  show z.cps.reverse.size ≤ sizeLine
  rw [Array.size_reverse]
  exact hz
end
end Lk

set_option Elab.async false
set_option linter.all false
set_option maxRecDepth 100000
set_option maxHeartbeats 4000000
namespace Lk
open PySem PySem.Spec PyProof.Rows L2
/-! ### a tuple backwards -/
section
variable {P : Program} {w : World} {A : Around} {E : Value → Shared → Prop} {s : Shared}
theorem fm_congr {α β : Type} {f g : α → Option β} : ∀ {ms : List α}, (∀ m ∈ ms, f m = g m) → ms.filterMap f = ms.filterMap g
  | [], _ => rfl
  | m :: ms, h => by rw [List.filterMap_cons, List.filterMap_cons, h m List.mem_cons_self, fm_congr fun k hk => h k (List.mem_cons_of_mem _ hk)]
theorem back_items (xs : Array Value) : ((List.range xs.size).filterMap fun (m : Nat) => xs[((xs.size : Int) - 1 + (m : Int) * -1).toNat]?).toArray = xs.toList.reverse.toArray := by
  congr 1
  have e : (List.range xs.size).filterMap (fun (m : Nat) => xs[((xs.size : Int) - 1 + (m : Int) * -1).toNat]?) = ((List.range xs.size).map fun m => xs.size - 1 - m).filterMap (xs[·]?) := by
    rw [List.filterMap_map]
    refine fm_congr fun m hm => ?_
    have := List.mem_range.mp hm
    show _ = xs[xs.size - 1 - m]?
    congr 1
    omega
  rw [e, PySem.W.krv_range, List.filterMap_reverse, PySem.W.krv_all]
theorem back_applied {a : Addr} {v : Value} {n : Nat} {Q : Int × Int × Nat → Shared → Prop} (hs : s.heap.IsSliceOf a .none .none v) (hv : IsPart v (some (-1))) (q : Q ((n : Int) - 1, -1, n) s) :
    wpAny (model P w) A (Builtin.Slice.sliceApplied (.ref a) (pure (n : Int))) Q E s := by
  have ⟨o, ho, _, hd⟩ := hs
  have pl : Builtin.Slice.slicePlaces ((n : Int) - 1) (-1) (-1) = n := by
    unfold Builtin.Slice.slicePlaces
    rw [if_neg (by decide)]
    split
    · rw [show (- -1 : Int) = 1 by decide, Int.ediv_one]; omega
    · omega
  unfold Builtin.Slice.sliceApplied Builtin.Slice.sliceFields
  apply wpAny_bind
  apply wpAny_bind
  apply wpAny_field ho hd (x := .none) rfl
  apply wpAny_bind
  apply wpAny_field ho hd (x := .none) rfl
  apply wpAny_bind
  apply wpAny_field ho hd (x := v) rfl
  apply wpAny_pure
  apply wpAny_bind
  apply HT.slicePart_ hv
  show wpAny _ _ (if ((-1 : Int) == 0) = true then _ else _) _ _ s
  rw [if_neg (by decide)]
  apply wpAny_bind
  apply HT.slicePart_ .none
  apply wpAny_bind
  apply HT.slicePart_ .none
  apply wpAny_bind
  apply wpAny_pure
  show wpAny _ _ (pure ((n : Int) - 1, (-1 : Int), Builtin.Slice.slicePlaces ((n : Int) - 1) (-1) (-1))) _ _ s
  rw [pl]
  exact wpAny_pure q
theorem back_tup {t a : Addr} {xs : Array Value} {v : Value} {Q : Value → Shared → Prop} (ht : IsTup s.heap t xs) (hs : s.heap.IsSliceOf a .none .none v) (hv : IsPart v (some (-1))) (hz : xs.size ≤ sizeLine)
    (q : Q (.ref s.heap.objs.size) { s with heap := s.heap.push { cls := .type "tuple", data := .seq xs.toList.reverse.toArray } }) : wpAny (model P w) A (getItem (.ref t) (.ref a)) Q E s := by
  have ⟨o, ho, hc, _⟩ := hs
  have ty : s.TypeIs (.ref a) "slice" := ⟨o, ho, hc⟩
  have small : sizeOk (.seq xs.toList.reverse.toArray) := by
    show xs.toList.reverse.toArray.size ≤ sizeLine
    rw [List.size_toArray, List.length_reverse, Array.length_toList]
    exact hz
  unfold getItem
  try with_reducible apply wpAny_holding
  first | refine wpAny_bind (wpAny_pure ?_) | skip
  apply wpAny_bind
  refine wpAny_sequenceKey ht.typeIs (by decide) ?_
  apply wpAny_bind
  refine wpAny_callSpecial?_slot (name := Str.ofString "__getitem__") ht.typeIs slot_tuple_getitem ?_
  refine wpAny_call_entry slot_tuple_getitem ht.typeIs entry_tuple_getitem ?_ (args_tuple_getitem _ _)
  show wpAny _ _ (Builtin.Tuple.tupleItemsOf (.ref t) >>= _) _ _ s
  apply wpAny_bind
  apply tupleItemsOf_ ht
  apply wpAny_bind
  apply wpAny_typeOf ty
  rw [if_pos (by decide)]
  apply wpAny_bind
  apply back_applied hs hv
  have no : ¬ ((((xs.size : Int) - 1) == 0 && (-1 : Int) == 1 && xs.size == xs.size) = true) := by
    rw [show ((-1 : Int) == 1) = false by decide, Bool.and_false, Bool.false_and]
    decide
  show wpAny _ _ (if (((xs.size : Int) - 1) == 0 && (-1 : Int) == 1 && xs.size == xs.size) = true then _ else _) _ _ s
  rw [if_neg no, back_items]
  first
    | exact wpAny_bind (m := Builtin.Tuple.tupleExact _) (wpAny_newObj_type (wpAny_pure ⟨_, rfl, wpAny_pure q⟩) small)
    | exact wpAny_bind (m := Builtin.Tuple.tupleExact _) (wpAny_newObj_type (wpAny_bind (wpAny_pure (wpAny_pure ⟨_, rfl, wpAny_pure q⟩))) small)
    | exact wpAny_bind (wpAny_bind (m := Builtin.Tuple.tupleExact _) (wpAny_newObj_type (wpAny_pure (wpAny_pure ⟨_, rfl, wpAny_pure q⟩)) small))
    | exact wpAny_bind (wpAny_bind (m := Builtin.Tuple.tupleExact _) (wpAny_newObj_type (wpAny_pure ⟨_, rfl, wpAny_pure q⟩) small))
end
def tRevT (K : PySem.W.Frag) (te : TE) : TE := fun σ H Q => te σ H fun x H1 => ∃ a xs, x = .ref a ∧ SqT K H1 a xs ∧ ∀ p, H1 p = none → Q (.ref p) (upd H1 p (.tup xs.reverse))
theorem pe_revT {X : Cx} {e : Expr} {te : TE} {k : Nat} {p1 p2 p3 pos : Pos} (he : PE X e te) : PE X (.Subscript e (.Slice none none (some (.UnaryOp .USub (.Constant (.int 1) k p1) p2)) p3) pos) (tRevT X.K te) := by
  refine ⟨fun pins s0 σ H0 Q I0 h0 => ?_⟩
  refine Subscript_ (thn (he.run pins s0 σ H0 _ I0 h0) fun v s1 got => ?_)
  obtain ⟨x, H1, I1, rx, a, xs, rfl, hx, q⟩ := got
  cases rx
  have minus : PO X (some (.UnaryOp .USub (.Constant (.int 1) k p1) p2)) (tPart (tUn (rU fun i => .int (-i)) (tC (.int 1)))) := po_some (pe_un un_neg pe_int)
  refine wpAny_Slice (thn (po_none.run pins s1 σ H1 (fun o Hx => o = none ∧ Hx = H1) I1 ⟨rfl, rfl⟩) fun va s2 ga => ?_)
  obtain ⟨oa, Ha, Ia, pa, rfl, rfl⟩ := ga
  refine thn (po_none.run pins s2 σ Ha (fun o Hx => o = none ∧ Hx = Ha) Ia ⟨rfl, rfl⟩) fun vb s3 gb => ?_
  obtain ⟨ob, Hb, Ib, pb, rfl, rfl⟩ := gb
  refine thn (minus.run pins s3 σ Hb (fun o Hx => o = some (-1) ∧ Hx = Hb) Ib ⟨1, rfl, -1, rfl, rfl, rfl⟩) fun vc s4 gc => ?_
  obtain ⟨oc, Hc, Ic, pc, rfl, rfl⟩ := gc
  cases pa
  cases pb
  have Id : Inv X pins σ Hc { s4 with heap := s4.heap.push { cls := .type "slice", data := .fields #[.none, .none, vc] } } := Ic.kept (t' := s4.toks) fun b ob qq => Heap.get?_push_of_some _ qq
  obtain ⟨its, r, ht, hz⟩ := Id.tuple hx
  have hlen := r.length
  refine tail_any ht.typeIs slot_tuple_getitem.lookup ?_ (by with_unfolding_all rfl)
  refine back_tup ht (Heap.IsSliceOf.new _ _ _ vc) pc (by rw [List.size_toArray]; omega) ⟨.ref _, _, Id.laid (t' := s4.toks) (o := .tup xs.reverse) (fun b ob qq => Heap.get?_push_of_some _ qq) (Nat.le_refl _) ?_, rfl, q _ (Id.hok.fresh (Nat.le_refl _))⟩
  exact ⟨by rw [List.length_reverse]; exact hz, _, r.reverse, IsTup.new _ _⟩
end Lk

set_option Elab.async false
set_option linter.all false
set_option maxRecDepth 100000
set_option maxHeartbeats 4000000
namespace Lk
open PySem PySem.Spec PyProof.Rows L2
/-! ### enumerate of a text -/
def Itx (z : Str) : It :=
  ⟨fun i _ => i < z.cps.size, fun i H v H' => ∃ T c, v = .ref T ∧ H T = none ∧ z.cps[i]? = some c ∧ H' = upd H T (.tup [.int (i : Nat), .str ⟨#[c]⟩]), fun i _ => i = z.cps.size⟩
theorem turn_enumT {P : Program} {w : World} {K : PySem.W.Frag} {elts : List Expr} {kk : Nat} {tpos : Pos} (z : Str) (t : Tok) (e it : Addr) :
    Turn P w K (.Tuple elts kk tpos) (Itx z) [e, it] e (fun i h => (∃ old, IsEnum h e it ((i : Nat) : Int) old) ∧ h.IsStrIter it (strIterType z) z t i ∧ e ≠ it) where
  mem := by simp
  obj := fun i h st b hb => by
    obtain ⟨⟨old, he⟩, ⟨o, ho, hc, hd⟩, _⟩ := st
    have e' : b = e ∨ b = it := by simpa using hb
    rcases e' with y | y
    · rw [y]; exact ⟨_, he, fun v q => nomatch q⟩
    · rw [y]; exact ⟨o, ho, fun v q => by rw [hd] at q; cases q⟩
  keep := fun i h h' st k => let ⟨⟨old, he⟩, ⟨o, ho, r⟩, hne⟩ := st; ⟨⟨old, k e (by simp) _ he⟩, ⟨o, k it (by simp) o ho, r⟩, hne⟩
  item := by
    intro X hP hw hK hc i pins s σ H E I hf st hg
    subst hP hw hK
    obtain ⟨⟨old, he⟩, hit, hne⟩ := st
    have hel : e < s.heap.objs.size := Heap.lt_size he
    have hil : it < s.heap.objs.size := by obtain ⟨_, q, _⟩ := hit; exact Heap.lt_size q
    refine wpAny_pyNext_enum_itemD (St := fun i h => h.IsStrIter it (strIterType z) z t i) (Draws.text (show X.A.in1.handled = none from I.ok.hd hc) it z t) he hit hg hne (by simpa using hne) fun x h' tk hx ho hit' hT hsz hk => ?_
    obtain ⟨c, u, hcx, rfl⟩ := hx
    refine ⟨_, rfl, wpAny_letOwnedTupleGo_enum (s := { s with heap := h', toks := tk + 1 }) ho fun h'' he' sb => ?_⟩
    have hT2 : h''.get? s.heap.objs.size = some { cls := .type "tuple", data := .seq #[.int i tk, .str ⟨#[c]⟩ u] } := (sb.2 _ (Nat.ne_of_gt hel)).trans hT
    have new : ObjOk X.prog X.w (upd H s.heap.objs.size (.tup [.int (i : Nat), .str ⟨#[c]⟩])) h'' s.heap.objs.size (.tup [.int (i : Nat), .str ⟨#[c]⟩]) :=
      ⟨by show 2 ≤ sizeLine; decide, [.int i tk, .str ⟨#[c]⟩ u], .cons ⟨_, rfl⟩ (.cons ⟨_, rfl⟩ .nil), ⟨_, hT2, rfl, _, rfl⟩⟩
    have I1 : Inv X pins σ (upd H s.heap.objs.size (.tup [.int (i : Nat), .str ⟨#[c]⟩])) { s with heap := h'', toks := tk + 1 } :=
      I.turnedNew (ch := [e, it]) (fun b ob hb q => (sb.2 b (fun y => hb (by simp [y]))).trans (hk b ob (fun y => hb (by simp [y])) (fun y => hb (by simp [y])) q)) hf (Nat.le_refl _) new
    refine ⟨.ref s.heap.objs.size, _, I1, rfl, ⟨_, c, rfl, I.hok.fresh (Nat.le_refl _), hcx, rfl⟩, ⟨⟨.str ⟨#[c]⟩ u, ?_⟩, ?_, hne⟩, fun b hb => ?_⟩
    · have e1 : ((i + 1 : Nat) : Int) = (i : Int) + 1 := by omega
      rw [e1]; exact he'
    · obtain ⟨o, q1, q2⟩ := hit'
      exact ⟨o, (sb.2 it (Ne.symm hne)).trans q1, q2⟩
    · have hb' : b < s.heap.objs.size := by
        have e' : b = e ∨ b = it := by simpa using hb
        rcases e' with y | y
        · rw [y]; exact hel
        · rw [y]; exact hil
      rw [upd_ne (Nat.ne_of_lt hb')]
      exact (hf b hb).1
  done := by
    intro X hP hw hK hc i pins s σ H E I hf st hg
    subst hP hw hK
    obtain ⟨⟨old, he⟩, hit, hne⟩ := st
    obtain ⟨f0, f1, f2, f3, f4, f5⟩ := hf it (by simp)
    have hi : i = z.cps.size := hg
    subst hi
    exact wpAny_pyNext_enum_endD (St := fun i h => h.IsStrIter it (strIterType z) z t i) (Draws.text (show X.A.in1.handled = none from I.ok.hd hc) it z t) he hit fun h' eb => ⟨rfl, I.turned (t' := s.toks) (fun b o hb q => eb b o hb q) f0 f1 f3 f4 f5⟩
  self := fun A i s Q E st h => let ⟨⟨_, he⟩, _⟩ := st; wpAny_pyIter_enum he h
def iEnumT (ta : TA) : TI := fun σ H R => ta σ H fun vs H1 => ∃ z : Str, vs = [.str z] ∧ R (Itx z) H1
theorem pi_enumT {X : Cx} {e : Expr} {ta : TA} {p pos tpos : Pos} {elts : List Expr} {kk : Nat} (hg : Gl X "enumerate") (hm : X.mg "enumerate" = none) (ha : PA X [e] ta) (hs : starEach [e] X.env = [(false, eval e X.env)] := by rfl) :
    PI X (.Tuple elts kk tpos) (.Call (.Name "enumerate" p) [e] [] pos) (iEnumT ta) := by
  refine ⟨fun pins s σ H R I h => ?_⟩
  refine Call_ (ld_blt I hg hm boot_enumerate (PyProof.Rows.callWith_type1 (thn (ha.run pos pins s σ H _ I h) fun us s1 ⟨vs, H1, I1, r1, q1⟩ => ?_) hs rfl))
  obtain ⟨z, ex, q⟩ := q1
  subst ex
  cases r1 with
  | cons r rr =>
    cases rr
    obtain ⟨t, rfl⟩ := (show ∃ t, _ = Value.str z t from r)
    refine call_enumerate_str fun h' he hit hsz hk => wpAny_pyIter_enum he ?_
    have I2 : Inv X pins σ H1 { s1 with heap := h' } := I1.kept (t' := s1.toks) hk
    refine ⟨s1.heap.objs.size + 1, [s1.heap.objs.size + 1, s1.heap.objs.size], _, _, H1, rfl, I2, turn_enumT z t (s1.heap.objs.size + 1) s1.heap.objs.size, ⟨⟨.none, he⟩, hit, Nat.succ_ne_self _⟩, fun b hb => ?_, q⟩
    have e' : b = s1.heap.objs.size + 1 ∨ b = s1.heap.objs.size := by simpa using hb
    have hle : s1.heap.objs.size ≤ b := by
      rcases e' with y | y
      · rw [y]; exact Nat.le_add_right _ _
      · rw [y]; exact Nat.le_refl _
    exact I1.fpOk hle (I1.hok.fresh hle)
theorem walk_enumT {z : Str} : Walk (Itx z) z.cps.size (fun _ => True) (fun i H v H' => ∃ T c, v = .ref T ∧ H T = none ∧ z.cps[i]? = some c ∧ H' = upd H T (.tup [.int (i : Nat), .str ⟨#[c]⟩])) :=
  ⟨fun _ _ hi _ => hi, fun _ _ => rfl, fun _ _ _ _ _ _ y => y⟩
/-! ### == and != by an own __eq__ -/
section
variable {X : Cx} {n : Nat}
/-- what == asks: x an instance of the class at C, y of a type that is not below C, the promise of the own __eq__ with a truth value -/
def rOEq (K : PySem.W.Frag) (C : Addr) (sp : Sp) (f : Bool → Bool) : R2 := fun x y H Q => ∃ a dx fs t, x = .ref a ∧ H a = some (.ins C dx fs) ∧ TyX K H y t ∧ PySem.W.notFirst K C t = true ∧
  sp [.ref a, y] H (fun z H' => ∃ b, z = .bl b ∧ Q (.bl (f b)) H') fun _ _ _ => False
theorem fn_call {CX : CXT} {g : Addr} {fd : FuncData} {ps : List Str} {sp : Sp} (Fo : FnOk X.prog X.w X.K X.mg X.base CX n g fd ps sp) (hb : Binds X.K fd ps []) (hx : Passes CX X fun _ _ _ => False)
    {A : Around} {pins : List (Addr × Obj)} {s : Shared} {σ : L2.St} {H : Hp} {vs : List V} {us : List Value} {Q : VK} (hr : Room n A) (hfr : A.frames = X.A.frames) (I : Inv X pins σ H s) (rv : Vals vs us) (h : sp vs H Q fun _ _ _ => False) :
    wpAny (model X.prog X.w) A (call (.ref g) us) (fun w s' => ∃ z H', Inv X pins σ H' s' ∧ RelV z w ∧ Q z H') X.xe s := by
  have e0 : Env0 X.prog X.w X.K X.mg X.base A X.stack s H := by
    have e := I.env0
    exact ⟨by rw [hfr]; exact e.frames, e.mod, e.bs, e.bsz, e.funs, e.frf, e.hok, e.bare⟩
  have hl := Fo.len _ _ _ _ h
  have hl2 : us.length = ps.length := by rw [← rv.length]; exact hl
  refine wpAny_call (codeAny_mono (Fo.run A X.stack s H ⟨us, []⟩ us vs Q _ hr e0 (by
    have := hb s us I.kIn (by simpa using hl2)
    simpa using this) rv h) fun r s' hq => ?_)
  cases r with
  | error e => exact hx pins σ H s e s' I hq
  | ok fl =>
    cases fl with
    | ret w =>
      obtain ⟨z, H', I', rz, q⟩ := I.after hq
      exact ⟨z, H', I', rz, q⟩
    | next => exact False.elim hq
    | brk => exact False.elim hq
    | cont => exact False.elim hq
theorem op_oeq {K : PySem.W.Frag} {CX : CXT} {C g : Addr} {fd : FuncData} {ps : List Str} {sp : Sp} (hK : X.K = K) (Fo : FnOk X.prog X.w X.K X.mg X.base CX n g fd ps sp)
    (hs : PySem.W.findIn X.K (.ref C) "__eq__" = some (some (.ref g))) (hf : PySem.W.isFn X.K (.ref g) = true) (hb : Binds X.K fd ps []) (hx : Passes CX X fun _ _ _ => False) (hr : Room n X.A) : OpR X (compareOp .Eq) (rOEq K C sp id) := by
  subst hK
  intro pins s σ H x y v u Q I rx ry h
  obtain ⟨a, dx, fs, t, rfl, ha, ty, hn, q⟩ := h
  cases (show v = Value.ref a from rx)
  obtain ⟨mA, J, _⟩ := ins_get I.hok ha
  obtain ⟨od, J, _⟩ := J.look
  obtain ⟨P, Z, p, _⟩ := kit_of I ry ty
  obtain ⟨m, hF⟩ := I.fr
  show wpAny (model X.prog X.w) X.A (richCompare .Eq (.ref a) u) (EP X pins σ Q) X.xe s
  refine PySem.W.cmp_K (op := .Eq) (tb := t) hr.units0 hF I.ok.mod.kin J (Z.ty _ _ I.kIn p) hn hs hf ?_
  refine wpAny_mono (fn_call Fo hb hx hr rfl (vs := [V.ref a, y]) (us := [Value.ref a, u]) I (.cons rfl (.cons ry .nil)) q) (fun w s' z => ?_) fun _ _ x => x
  obtain ⟨z', H', I', rz, b, rfl, qz⟩ := z
  cases (show w = Value.bool b from rz)
  exact ⟨.bl b, H', I', rfl, qz⟩
theorem ifB_ne {M : Model} {A : Around} {E : Value → Shared → Prop} {s : Shared} {K : PySem.W.Frag} {x C : Addr} {ox : Obj} {od : Option Obj} {args : List Value} {Q : Option Value → Shared → Prop} (Xk : K.In s.heap) (I : PySem.W.InstAt s.heap x ox C od)
    (hs : PySem.W.findIn K (.ref C) "__ne__" = some (some (.builtin "object.__ne__")))
    (h : wpAny M A (call (.builtin "object.__ne__") (.ref x :: args)) (fun v => Q (some v)) E s) : wpAny M A (callSpecialIfBound? (.ref x) "__ne__" args) Q E s := by
  simp only [callSpecialIfBound?, bindSpecialIfBound?]
  refine wpAny_holding (wpAny_bind (wpAny_bind (wpAny_bind (I.type.here ((PySem.W.looks_findIn Xk hs).here ?_)))))
  refine wpAny_bind (wpAny_askSetting (wpAny_ite ?_))
  have fin : wpAny M A (call (.builtin "object.__ne__") ([.ref x] ++ args) >>= fun v => pure (some v)) Q E s := wpAny_bind (wpAny_mono h (fun v s' h' => wpAny_pure h') fun _ _ h' => h')
  split
  · exact wpAny_bind (wpAny_of_eq (F.cmp_object.ne.bind _) (wpAny_pure (by exact fin)))
  · exact wpAny_tryCatch (wpAny_bind (wpAny_of_eq (F.cmp_object.ne.bind _) (wpAny_pure (by exact fin))))
theorem ne_entry {prog : Program} {w : World} {A : Around} {E : Value → Shared → Prop} {s : Shared} {K : PySem.W.Frag} {x C g : Addr} {b : Value} {ox : Obj} {od : Option Obj} {Q : Fin → Shared → Prop} (hu : A.units < cLine) (Xk : K.In s.heap) (I : PySem.W.InstAt s.heap x ox C od)
    (hs : PySem.W.findIn K (.ref C) "__eq__" = some (some (.ref g))) (hf : PySem.W.isFn K (.ref g) = true)
    (hcall : wpAny (model prog w) A (call (.ref g) [.ref x, b]) (fun v s' => ∃ r, v = .bool r ∧ Q (.done (.ret (.bool (!r)))) s') E s) :
    wpAny (model prog w) A (Builtin.«object.__ne__» ⟨[.ref x, b], []⟩) Q E s := by
  unfold Builtin.«object.__ne__»
  repeat (first
    | with_reducible refine wpAny_cRoomFor hu ?_
    | (refine wpAny_bind (m := callSpecialIfBound? (.ref x) (Str.ofString "__eq__") [b])
        (PySem.W.ifBound_K Xk I hs hf (wpAny_mono hcall (fun r s' hr => by
          obtain ⟨b, rfl, hq⟩ := hr
          repeat (first | exact hq | exact wpAny_pure hq | exact wpAny_truthy_bool hq | (refine wpAny_bind (m := truthy (.bool _)) (wpAny_truthy_bool ?_)) | wp_step)) fun _ _ e => e)))
    | wp_step)
theorem op_one {K : PySem.W.Frag} {CX : CXT} {C g : Addr} {fd : FuncData} {ps : List Str} {sp : Sp} (hK : X.K = K) (Fo : FnOk X.prog X.w X.K X.mg X.base CX n g fd ps sp) (hm : PySem.W.mroIn X.K C (.type "object") = some true)
    (hs : PySem.W.findIn X.K (.ref C) "__eq__" = some (some (.ref g))) (hne : PySem.W.findIn X.K (.ref C) "__ne__" = some (some (.builtin "object.__ne__"))) (hf : PySem.W.isFn X.K (.ref g) = true) (hb : Binds X.K fd ps []) (hx : Passes CX X fun _ _ _ => False) (hr : Room (n + 1) X.A) : OpR X (compareOp .NotEq) (rOEq K C sp not) := by
  subst hK
  intro pins s σ H x y v u Q I rx ry h
  obtain ⟨a, dx, fs, t, rfl, ha, ty, hn, q⟩ := h
  cases (show v = Value.ref a from rx)
  obtain ⟨mA, J, _⟩ := ins_get I.hok ha
  obtain ⟨od, J, _⟩ := J.look
  obtain ⟨P, Z, p, _⟩ := kit_of I ry ty
  show wpAny (model X.prog X.w) X.A (richCompare .NotEq (.ref a) u) (EP X pins σ Q) X.xe s
  have Xk := I.kIn
  have one : wpAny (model X.prog X.w) X.A (tryCompare (.ref a) "__ne__" u) (fun r s' => ∃ v, r = some v ∧ EP X pins σ Q v s') X.xe s := by
    unfold tryCompare
    refine wpAny_bind (ifB_ne Xk J hne (wpAny_call (codeAny_call_builtin F.cmp_object.ne.plain F.cmpEntry_ne (PySem.W.check_slot F.cmpKind_ne F.cmpSplit_ne (J.type.andThen (PySem.W.looks_mroIn Xk hm)) (F.cmpArgs_ne _ _) (ne_entry (hr.in1).units0 Xk J hs hf ?_)))))
    refine wpAny_mono (fn_call Fo hb hx hr.in1 rfl (vs := [V.ref a, y]) (us := [Value.ref a, u]) I (.cons rfl (.cons ry .nil)) q) (fun w s' z => ?_) fun _ _ x => x
    obtain ⟨z', H', I', rz, b, rfl, qz⟩ := z
    cases (show w = Value.bool b from rz)
    exact ⟨b, rfl, wpAny_pure ⟨_, rfl, .bl (!b), H', I', rfl, qz⟩⟩
  unfold richCompare
  simp only [oneThing_ref]
  refine wpAny_holding (wpAny_bind (wpAny_cRoomFor hr.units0 ?_))
  refine wpAny_bind (J.type.here (wpAny_bind ((Z.ty _ _ Xk p).here ?_)))
  split
  · rename_i q
    have e : PySem.W.subIn X.K t (.ref C) = some false := by
      rcases Bool.or_eq_true_iff.mp hn with e | e
      · rw [beq_iff_eq.mp e] at q; simp at q
      · exact beq_iff_eq.mp e
    refine wpAny_bind ((PySem.W.looks_subIn Xk e).here ?_)
    simp only [Bool.false_eq_true, if_false]
    refine wpAny_bind (wpAny_mono one (fun r s' z => ?_) fun _ _ e => e)
    obtain ⟨v, rfl, hq⟩ := z
    exact wpAny_pure hq
  · refine wpAny_bind (wpAny_pure ?_)
    simp only [Bool.false_eq_true, if_false]
    refine wpAny_bind (wpAny_mono one (fun r s' z => ?_) fun _ _ e => e)
    obtain ⟨v, rfl, hq⟩ := z
    exact wpAny_pure hq
end
/-! ### a chain of three comparisons -/
section
variable {X : Cx}
def tChain3 (r r' r'' : R2) (ta tb tc td : TE) : TE := fun σ H Q => ta σ H fun x H1 => tb σ H1 fun y H2 => r x y H2 fun z H3 => ∃ k, z = .bl k ∧
  (if k = true then tc σ H3 fun w' H4 => r' y w' H4 fun z2 H5 => ∃ k2, z2 = .bl k2 ∧ (if k2 = true then td σ H5 fun v' H6 => r'' w' v' H6 Q else Q (.bl false) H5) else Q (.bl false) H3)
theorem pe_chain3 {a b c d : Expr} {ta tb tc td : TE} {pos : Pos} {op op' op'' : CmpOp} {r r' r'' : R2} (ho : OpR X (compareOp op) r) (ho' : OpR X (compareOp op') r') (ho'' : OpR X (compareOp op'') r'') (ha : PE X a ta) (hb : PE X b tb) (hc : PE X c tc) (hd : PE X d td)
    (hm : lastMarks [op, op', op''] [b, c, d] = false := by with_unfolding_all rfl) : PE X (.Compare a [op, op', op''] [b, c, d] pos) (tChain3 r r' r'' ta tb tc td) := by
  refine ⟨fun pins s σ H Q I h => ?_⟩
  refine Compare_chain (thn (ha.run pins s σ H _ I h) fun v s1 ⟨x, H1, I1, r1, q1⟩ => chain_link (thn (hb.run pins s1 σ H1 _ I1 q1) fun u s2 ⟨y, H2, I2, r2, q2⟩ =>
    thn (ho pins s2 σ H2 x y v u _ I2 r1 r2 q2) fun d s3 ⟨z, H3, I3, r3, k, e, q3⟩ => ?_)) hm
  subst e
  cases r3
  refine wpAny_truthy_bool ?_
  cases k with
  | false => exact ite_ff ⟨.bl false, H3, I3, rfl, q3⟩
  | true =>
    refine ite_tt (chain_link (thn (hc.run pins s3 σ H3 _ I3 q3) fun w' s4 ⟨z', H4, I4, r4, q4⟩ => thn (ho' pins s4 σ H4 y z' u w' _ I4 r2 r4 q4) fun d5 s5 ⟨z5, H5, I5, r5, k2, e2, q5⟩ => ?_))
    subst e2
    cases r5
    refine wpAny_truthy_bool ?_
    cases k2 with
    | false => exact ite_ff ⟨.bl false, H5, I5, rfl, q5⟩
    | true => exact ite_tt (chain_last (thn (hd.run pins s5 σ H5 _ I5 q5) fun w6 s6 ⟨z6, H6, I6, r6, q6⟩ => ho'' pins s6 σ H6 z' z6 w' w6 Q I6 r4 r6 q6))
end
end Lk

set_option Elab.async false
set_option linter.all false
set_option maxRecDepth 100000
set_option maxHeartbeats 4000000
namespace Mi
open PySem PySem.Spec PyProof.Rows L2
/-! ### what a loop walks -/
section
variable {Γ : Ga} {cs ts : List Nat} {W : WX} {m : Md} {σ : L2.St} {H G H1 G1 H0 : Hp} {ρ : Env} {f : E} {g : EA} {X : Cx} {e : Expr} {es : List Expr} {ks : List Kd} {a : Addr} {vs : List V} {ds : List D} {J : It} {items : List D} {ro : Option (Addr × HO)}
/-- the list stands in G, or lies in a cell -/
def Stood (Γ : Ga) (H G : Hp) (ro : Option (Addr × HO)) (a : Addr) (vs : List V) : Prop := SqL Γ.K G a vs ∨ (ro = some (a, .lst vs) ∧ H a = some (.lst vs))
theorem Stood.sees {H' : Hp} (h : Stood Γ H G ro a vs) (s : Same G H') (hr : ∀ a o, ro = some (a, o) → H' a = some o) : SqL Γ.K H' a vs := by
  rcases h with h | ⟨h, _⟩
  · exact s.seq h
  · exact SqL.of (hr _ _ h)
theorem root_stood {x : V} {d : D} (b : Bool) (s : Same G H) (h0 : RM Γ (if b then .root else .full) H0 H G x d) (e : listD d = some ds) : ∃ a vs ro, x = .ref a ∧ Stood Γ H G ro a vs ∧ Dts Γ G vs ds ∧ (b = false → ro = none) ∧ ∀ a o, ro = some (a, o) → H a = some o := by
  have full : Dt Γ G x d → ∃ a vs ro, x = .ref a ∧ Stood Γ H G ro a vs ∧ Dts Γ G vs ds ∧ (b = false → ro = none) ∧ ∀ a o, ro = some (a, o) → H a = some o := by
    intro h
    cases d with
    | lst ds' =>
      cases e
      cases h with
      | lst h r => exact ⟨_, _, none, rfl, .inl (SqL.of h), r, fun _ => rfl, fun _ _ z => nomatch z⟩
    | slst ns =>
      cases e
      cases h with
      | slst h => exact ⟨_, _, none, rfl, .inl h, Dts.ints ns, fun _ => rfl, fun _ _ z => nomatch z⟩
    | _ => cases e
  cases b with
  | false => exact full h0
  | true =>
    rcases (show RM Γ .root H0 H G x d from h0) with h | ⟨a, o, rfl, q, h⟩
    · exact full h
    · cases h with
      | lst r =>
        cases e
        exact ⟨a, _, some (a, .lst _), rfl, .inr ⟨rfl, q⟩, r, fun z => (by cases z), fun b o z => by cases z; exact q⟩
      | ins r => cases e
      | dK r => cases e
      | dT r => cases e
theorem wd_list (h : Stood Γ H G ro a vs) (r : Dts Γ G vs ds) : WalkD Γ (Itl Γ.K a) ds G ro :=
  ⟨⟨_, _, by rw [← r.len]; exact walk_list, fun H' s hr => h.sees s hr, fun i H' v H2 d G1 hd s1 s2 y => by
    obtain ⟨rfl, hv⟩ := y
    obtain ⟨u, q1, q2⟩ := r.get hd
    rw [hv] at q1
    cases q1
    exact ⟨G1, Ext.refl s2, q2.same s1⟩⟩⟩
theorem wd_rev (h : Stood Γ H G ro a vs) (r : Dts Γ G vs ds) : WalkD Γ (Itv Γ.K a vs.length) ds.reverse G ro :=
  ⟨⟨_, _, by rw [List.length_reverse, ← r.len]; exact walk_rev, fun H' s hr => h.sees s hr, fun i H' v H2 d G1 hd s1 s2 y => by
    obtain ⟨rfl, hv⟩ := y
    have hi := (List.getElem?_eq_some_iff.mp hd).1
    rw [List.length_reverse] at hi
    rw [List.getElem?_reverse hi] at hd
    obtain ⟨u, q1, q2⟩ := r.get hd
    rw [r.len, q1] at hv
    cases hv
    exact ⟨G1, Ext.refl s2, q2.same s1⟩⟩⟩
theorem wd_tup (h : SqT Γ.K G a vs) (r : Dts Γ G vs ds) : WalkD Γ (Itt Γ.K a) ds G none :=
  ⟨⟨_, _, by rw [← r.len]; exact walk_tup, fun H' s _ => Same.sqT s h, fun i H' v H2 d G1 hd s1 s2 y => by
    obtain ⟨rfl, hv⟩ := y
    obtain ⟨u, q1, q2⟩ := r.get hd
    rw [hv] at q1
    cases q1
    exact ⟨G1, Ext.refl s2, q2.same s1⟩⟩⟩
def rngL (lo : Int) (n : Nat) : List D := (List.range n).map fun (i : Nat) => D.int (lo + (i : Int))
theorem wd_rng {lo : Int} {n : Nat} : WalkD Γ (Itr lo n) (rngL lo n) G none :=
  ⟨⟨_, _, by unfold rngL; rw [List.length_map, List.length_range]; exact walk_range, fun _ _ _ => trivial, fun i H' v H2 d G1 hd s1 s2 y => by
    obtain ⟨rfl, rfl⟩ := y
    unfold rngL at hd
    rw [List.getElem?_map] at hd
    obtain ⟨j, h1, h2⟩ := Option.map_eq_some_iff.mp hd
    obtain ⟨h3, h4⟩ := List.getElem?_eq_some_iff.mp h1
    rw [List.getElem_range] at h4
    subst h2 h4
    exact ⟨G1, Ext.refl s2, .int _⟩⟩⟩
def chrL (z : Str) : List D := z.cps.toList.map fun c => D.str ⟨#[c]⟩
theorem wd_str {z : Str} : WalkD Γ (Its z) (chrL z) G none :=
  ⟨⟨_, _, by unfold chrL; rw [List.length_map, Array.length_toList]; exact walk_str, fun _ _ _ => trivial, fun i H' v H2 d G1 hd s1 s2 y => by
    obtain ⟨rfl, c, h1, rfl⟩ := y
    unfold chrL at hd
    rw [List.getElem?_map, Array.getElem?_toList, h1] at hd
    cases hd
    exact ⟨G1, Ext.refl s2, .str _⟩⟩⟩
theorem pair_new {H' G1 : Hp} {t : Addr} {x y : V} {dx dy : D} (s : Same G1 H') (nt : H' t = none) (h1 : Dt Γ G1 x dx) (h2 : Dt Γ G1 y dy) : ∃ G2, Ext H' G1 (upd H' t (.tup [x, y])) G2 ∧ Dt Γ G2 (.ref t) (.tup [dx, dy]) := by
  have ex : Ext H' G1 (upd H' t (.tup [x, y])) (upd G1 t (.tup [x, y])) := Ext.new s nt
  exact ⟨_, ex, Dt.tup SqT.in (.cons (h1.same ex.st.g) (.cons (h2.same ex.st.g) .nil))⟩
def enumL (k : Nat) : List D → List D
  | [] => []
  | d :: ds => .tup [.int (k : Int), d] :: enumL (k + 1) ds
theorem enumL_len : ∀ (k : Nat) (ds : List D), (enumL k ds).length = ds.length
  | _, [] => rfl
  | k, d :: ds => congrArg (· + 1) (enumL_len (k + 1) ds)
theorem enumL_get : ∀ {k : Nat} {ds : List D} {i : Nat} {d : D}, (enumL k ds)[i]? = some d → ∃ e, ds[i]? = some e ∧ d = .tup [.int ((k + i : Nat) : Int), e]
  | _, [], _, _, h => by simp [enumL] at h
  | k, d0 :: ds, 0, d, h => ⟨d0, rfl, by simp [enumL] at h; exact h.symm⟩
  | k, d0 :: ds, i + 1, d, h => by
    obtain ⟨e, h1, h2⟩ := enumL_get (k := k + 1) (ds := ds) (i := i) (d := d) (by simpa [enumL] using h)
    exact ⟨e, by simpa using h1, by rw [h2, show k + 1 + i = k + (i + 1) by omega]⟩
theorem wd_enum (h : Stood Γ H G ro a vs) (r : Dts Γ G vs ds) : WalkD Γ (Ite Γ.K a) (enumL 0 ds) G ro :=
  ⟨⟨_, _, by rw [enumL_len, ← r.len]; exact walk_enum, fun H' s hr => h.sees s hr, fun i H' v H2 d G1 hd s1 s2 y => by
    obtain ⟨t, x, u, rfl, nt, rfl, hx, hu⟩ := y
    obtain ⟨e, q1, rfl⟩ := enumL_get hd
    obtain ⟨w, q2, q3⟩ := r.get q1
    have hu' : vs[i]? = some u := hu
    rw [hu'] at q2
    cases q2
    cases hx
    rw [Nat.zero_add]
    exact pair_new s2 nt (.int _) (q3.same s1)⟩⟩
theorem wd_enumT {z : Str} : WalkD Γ (Lk.Itx z) (enumL 0 (chrL z)) G none :=
  ⟨⟨_, _, by rw [enumL_len]; unfold chrL; rw [List.length_map, Array.length_toList]; exact Lk.walk_enumT, fun _ _ _ => trivial, fun i H' v H2 d G1 hd s1 s2 y => by
    obtain ⟨t, c, rfl, nt, h1, rfl⟩ := y
    obtain ⟨e, q1, rfl⟩ := enumL_get hd
    unfold chrL at q1
    rw [List.getElem?_map, Array.getElem?_toList, h1] at q1
    cases q1
    rw [Nat.zero_add]
    exact pair_new s2 nt (.int _) (.str _)⟩⟩
def zipL (as bs : List D) : List D := List.zipWith (fun x y => D.tup [x, y]) as bs
theorem wd_zip {b : Addr} {ws : List V} {es : List D} (h : SqL Γ.K G a vs) (h2 : SqL Γ.K G b ws) (r : Dts Γ G vs ds) (r2 : Dts Γ G ws es) : WalkD Γ (Itz Γ.K a b) (zipL ds es) G none :=
  ⟨⟨_, _, walk_zip (xs := vs) (ys := ws) (by unfold zipL; rw [List.length_zipWith, r.len, r2.len]), fun H' s _ => ⟨s.seq h, s.seq h2⟩, fun i H' v H2 d G1 hd s1 s2 y => by
    obtain ⟨t, x, u, rfl, nt, rfl, hx, hu⟩ := y
    unfold zipL at hd
    rw [List.getElem?_zipWith] at hd
    obtain ⟨x', q1, q2⟩ := r.getV hx
    obtain ⟨u', q3, q4⟩ := r2.getV hu
    rw [q1, q3] at hd
    cases hd
    exact pair_new s2 nt (q2.same s1) (q4.same s1)⟩⟩
/-! #### from expressions -/
def iL (f : E) : E := fun ρ => eBind (f ρ) fun d ρ1 => match listD d with
  | some ds => some (.ok (.lst ds) ρ1)
  | none => none
def iT (f : E) : E := fun ρ => eBind (f ρ) fun d ρ1 => match d with
  | .tup ds => some (.ok (.lst ds) ρ1)
  | _ => none
def iS (f : E) : E := fun ρ => eBind (f ρ) fun d ρ1 => match d with
  | .str z => some (.ok (.lst (chrL z)) ρ1)
  | _ => none
def iA (k : List D → Option (List D)) (g : EA) : E := fun ρ => aBind (g ρ) fun ds ρ1 => match k ds with
  | some is => some (.ok (.lst is) ρ1)
  | none => none
theorem finI_bind {r : Option R} {k : D → Env → Option R} {b : Bool} {Rr : It → Hp → Prop} {Q1 : VK} {m1 : Md} (fin : FinI Γ cs ts W b σ H G Rr (eBind r k))
    (hk : ∀ v d ρ1 H1 G1, Rep Γ cs σ H1 G1 ρ1 → Stp (T ts σ) H G H1 G1 → RM Γ m1 H H1 G1 v d → FinI Γ cs ts W b σ H G Rr (k d ρ1) → Q1 v H1) : Fin Γ cs ts W m1 σ H G Q1 r := by
  rcases r with _ | ⟨d, ρ'⟩ | ⟨x, ρ'⟩
  · exact fin
  · exact fun v H' G' rep st rm => hk v d ρ' H' G' rep st rm fin
  · exact fun c dx H' G' rep st q => fin c dx H' G' rep st q
theorem finIA_bind {r : Option RA} {k : List D → Env → Option R} {b : Bool} {Rr : It → Hp → Prop} {Q1 : List V → Hp → Prop} (fin : FinI Γ cs ts W b σ H G Rr (aBind r k))
    (hk : ∀ vs ds ρ1 H1 G1, Rep Γ cs σ H1 G1 ρ1 → Stp (T ts σ) H G H1 G1 → RKs Γ σ H H1 G1 ks vs ds → FinI Γ cs ts W b σ H G Rr (k ds ρ1) → Q1 vs H1) : FinA Γ cs ts W ks σ H G Q1 r := by
  rcases r with _ | ⟨d, ρ'⟩ | ⟨x, ρ'⟩
  · exact fin
  · exact fun v H' G' rep st rm => hk v d ρ' H' G' rep st rm fin
  · exact fun c dx H' G' rep st q => fin c dx H' G' rep st q
theorem mi_list {tg l : Expr} {b : Bool} {K : PySem.W.Frag} (hK : X.K = K := by rfl) (hΓ : Γ.K = K := by rfl) (hl : PE X l (tE Γ cs ts W (if b then .root else .full) f)) : PI X tg l (tI Γ cs ts W b (iL f)) := by
  subst hK
  refine PI.imp (pi_list hl) fun σ H Rr ⟨G, ρ, rep, fin⟩ => ⟨G, ρ, rep, finI_bind fin fun v d ρ1 H1 G1 rep1 st1 rm fin1 => ?_⟩
  cases e : listD d with
  | none => rw [e] at fin1; exact fin1.elim
  | some ds =>
    rw [e] at fin1
    obtain ⟨a, vs, ro, rfl, h1, h2, h3, h4⟩ := root_stood b rep1.sub rm e
    rw [← hΓ]
    exact ⟨a, rfl, ⟨vs, h1.sees rep1.sub h4⟩, fin1 _ H1 G1 ro h3 rep1 st1 h4 (wd_list h1 h2)⟩
theorem mi_tup {tg l : Expr} {K : PySem.W.Frag} (hK : X.K = K := by rfl) (hΓ : Γ.K = K := by rfl) (hl : PE X l (tE Γ cs ts W .full f)) : PI X tg l (tI Γ cs ts W b (iT f)) := by
  subst hK
  refine PI.imp (pi_tup hl) fun σ H Rr ⟨G, ρ, rep, fin⟩ => ⟨G, ρ, rep, finI_bind fin fun v d ρ1 H1 G1 rep1 st1 rm fin1 => ?_⟩
  cases d with
  | tup ds =>
    cases (show Dt Γ G1 v (.tup ds) from rm) with
    | tup h r =>
      rw [← hΓ]
      exact ⟨_, rfl, ⟨_, Same.sqT rep1.sub h⟩, (show FinI Γ cs ts W _ σ H G Rr (some (.ok (.lst ds) ρ1)) from fin1) _ H1 G1 none (fun _ => rfl) rep1 st1 (fun _ _ z => nomatch z) (wd_tup h r)⟩
  | _ => exact (show False from fin1).elim
theorem mi_str {tg l : Expr} {b : Bool} (hl : PE X l (tE Γ cs ts W .full f)) : PI X tg l (tI Γ cs ts W b (iS f)) := by
  refine PI.imp (pi_str hl) fun σ H Rr ⟨G, ρ, rep, fin⟩ => ⟨G, ρ, rep, finI_bind fin fun v d ρ1 H1 G1 rep1 st1 rm fin1 => ?_⟩
  cases d with
  | str z =>
    cases (show Dt Γ G1 v (.str z) from rm)
    exact ⟨z, rfl, (show FinI Γ cs ts W b σ H G Rr (some (.ok (.lst (chrL z)) ρ1)) from fin1) _ H1 G1 none (fun _ => rfl) rep1 st1 (fun _ _ z => nomatch z) wd_str⟩
  | _ => exact (show False from fin1).elim
def rngC (i : Int) : Prop := -(2 ^ 62) ≤ i ∧ i < 2 ^ 62
noncomputable instance (i : Int) : Decidable (rngC i) := Classical.propDecidable _
noncomputable def k_rng1 : List D → Option (List D)
  | [.int j] => if rngC j then some (rngL 0 j.toNat) else none
  | _ => none
noncomputable def k_rng2 : List D → Option (List D)
  | [.int i, .int j] => if rngC i ∧ rngC j then some (rngL i (j - i).toNat) else none
  | _ => none
def k_enum : List D → Option (List D)
  | [d] => (listD d).map (enumL 0)
  | _ => none
def k_enumT : List D → Option (List D)
  | [.str z] => some (enumL 0 (chrL z))
  | _ => none
def k_rev : List D → Option (List D)
  | [d] => (listD d).map List.reverse
  | _ => none
def k_zip : List D → Option (List D)
  | [d, e] => (listD d).bind fun as => (listD e).map (zipL as)
  | _ => none
section
variable {tg : Expr} {p pos : Pos} {Rr : It → Hp → Prop} {b : Bool} {k : List D → Option (List D)} {ρ1 : Env}
theorem FinI.ka (fin : FinI Γ cs ts W b σ H G Rr (match k ds with
  | some is => some (.ok (.lst is) ρ1)
  | none => none)) : ∃ is, k ds = some is ∧ FinI Γ cs ts W b σ H G Rr (some (.ok (.lst is) ρ1)) := by
  cases e : k ds with
  | none => rw [e] at fin; exact fin.elim
  | some is => rw [e] at fin; exact ⟨is, rfl, fin⟩
theorem one_of {d : D} (r : RKs Γ σ H0 H G ks vs [d]) : ∃ k v, ks = [k] ∧ vs = [v] ∧ RK Γ σ H0 H G k v d := by
  cases ks with
  | nil => cases vs <;> exact r.elim
  | cons k ks =>
    cases vs with
    | nil => exact r.elim
    | cons v vs =>
      cases ks with
      | nil =>
        cases vs with
        | nil => exact ⟨k, v, rfl, rfl, r.1⟩
        | cons => exact r.2.2.elim
      | cons k2 ks =>
        cases vs with
        | nil => exact r.2.2.elim
        | cons => exact r.2.2.elim
theorem two_of {d d2 : D} (r : RKs Γ σ H0 H G ks vs [d, d2]) : ∃ k v k2 v2, ks = [k, k2] ∧ vs = [v, v2] ∧ RK Γ σ H0 H G k v d ∧ RK Γ σ H0 H G k2 v2 d2 := by
  cases ks with
  | nil => cases vs <;> exact r.elim
  | cons k ks =>
    cases vs with
    | nil => exact r.elim
    | cons v vs =>
      obtain ⟨k2, v2, h1, h2, h3⟩ := one_of r.2.2
      subst h1 h2
      exact ⟨k, v, k2, v2, rfl, rfl, r.1, h3⟩
theorem mi_rng1 (hg : Gl X "range") (hm : X.mg "range" = none) (ha : PA X [e] (tA Γ cs ts W [.full] g)) (hs : starEach [e] X.env = [(false, eval e X.env)] := by rfl) : PI X tg (.Call (.Name "range" p) [e] [] pos) (tI Γ cs ts W b (iA k_rng1 g)) := by
  refine PI.imp (pi_range1 hg hm ha hs) fun σ H Rr ⟨G, ρ, rep, fin⟩ => ⟨G, ρ, rep, finIA_bind fin fun vs ds ρ1 H1 G1 rep1 st1 rk fin1 => ?_⟩
  obtain ⟨is, e, fin2⟩ := fin1.ka
  unfold k_rng1 at e
  split at e
  · split at e
    · rename_i j hc
      cases e
      obtain ⟨k, v, h1, rfl, h2⟩ := one_of rk
      cases h1
      cases dt_int h2
      exact ⟨j, rfl, hc.1, hc.2, fin2 _ H1 G1 none (fun _ => rfl) rep1 st1 (fun _ _ z => nomatch z) wd_rng⟩
    · cases e
  · cases e
theorem mi_rng2 {e2 : Expr} (hg : Gl X "range") (hm : X.mg "range" = none) (ha : PA X [e, e2] (tA Γ cs ts W [.full, .full] g)) (hs : starEach [e, e2] X.env = [(false, eval e X.env), (false, eval e2 X.env)] := by rfl) (hs2 : starEach [e2] X.env = [(false, eval e2 X.env)] := by rfl) :
    PI X tg (.Call (.Name "range" p) [e, e2] [] pos) (tI Γ cs ts W b (iA k_rng2 g)) := by
  refine PI.imp (pi_range2 hg hm ha hs hs2) fun σ H Rr ⟨G, ρ, rep, fin⟩ => ⟨G, ρ, rep, finIA_bind fin fun vs ds ρ1 H1 G1 rep1 st1 rk fin1 => ?_⟩
  obtain ⟨is, e, fin2⟩ := fin1.ka
  unfold k_rng2 at e
  split at e
  · split at e
    · rename_i i j hc
      cases e
      obtain ⟨k, v, k2, v2, h1, rfl, h2, h3⟩ := two_of rk
      cases h1
      cases dt_int h2
      cases dt_int h3
      exact ⟨i, j, rfl, ⟨hc.1.1, hc.1.2, hc.2.1, hc.2.2⟩, fin2 _ H1 G1 none (fun _ => rfl) rep1 st1 (fun _ _ z => nomatch z) wd_rng⟩
    · cases e
  · cases e
def Kd.lm : Kd → Bool → Bool
  | .full, _ => true
  | .root, b => b
  | _, _ => false
theorem rk_stood {k : Kd} {x : V} {d : D} (hk : k.lm b = true) (s : Same G H) (h : RK Γ σ H0 H G k x d) (e : listD d = some ds) : ∃ a vs ro, x = .ref a ∧ Stood Γ H G ro a vs ∧ Dts Γ G vs ds ∧ (b = false → ro = none) ∧ ∀ a o, ro = some (a, o) → H a = some o := by
  cases k with
  | full =>
    obtain ⟨a, vs, ro, h1, h2, h3, h4, h5⟩ := root_stood (H0 := H0) false s h e
    have hr := h4 rfl
    subst hr
    exact ⟨a, vs, none, h1, h2, h3, fun _ => rfl, h5⟩
  | root =>
    have hb : b = true := hk
    subst hb
    exact root_stood (H0 := H0) true s h e
  | own => cases hk
  | cel i => cases hk
theorem mi_enum {k : Kd} {elts : List Expr} {kk : Nat} {tpos : Pos} {K : PySem.W.Frag} (hg : Gl X "enumerate") (hm : X.mg "enumerate" = none) (ha : PA X [e] (tA Γ cs ts W [k] g)) (hk : k.lm b = true := by rfl) (hK : X.K = K := by rfl) (hΓ : Γ.K = K := by rfl) (hs : starEach [e] X.env = [(false, eval e X.env)] := by rfl) :
    PI X (.Tuple elts kk tpos) (.Call (.Name "enumerate" p) [e] [] pos) (tI Γ cs ts W b (iA k_enum g)) := by
  subst hK
  refine PI.imp (pi_enum hg hm ha hs) fun σ H Rr ⟨G, ρ, rep, fin⟩ => ⟨G, ρ, rep, finIA_bind fin fun vs ds ρ1 H1 G1 rep1 st1 rk fin1 => ?_⟩
  obtain ⟨is, e, fin2⟩ := fin1.ka
  unfold k_enum at e
  split at e
  · obtain ⟨ds, e1, rfl⟩ := Option.map_eq_some_iff.mp e
    obtain ⟨k', v, h1, rfl, h2⟩ := one_of rk
    cases h1
    obtain ⟨a, vs, ro, rfl, q1, q2, q3, q4⟩ := rk_stood hk rep1.sub h2 e1
    rw [← hΓ]
    exact ⟨a, vs, rfl, q1.sees rep1.sub q4, fin2 _ H1 G1 ro q3 rep1 st1 q4 (wd_enum q1 q2)⟩
  · cases e
theorem mi_enumT {elts : List Expr} {kk : Nat} {tpos : Pos} (hg : Gl X "enumerate") (hm : X.mg "enumerate" = none) (ha : PA X [e] (tA Γ cs ts W [.full] g)) (hs : starEach [e] X.env = [(false, eval e X.env)] := by rfl) :
    PI X (.Tuple elts kk tpos) (.Call (.Name "enumerate" p) [e] [] pos) (tI Γ cs ts W b (iA k_enumT g)) := by
  refine PI.imp (Lk.pi_enumT hg hm ha hs) fun σ H Rr ⟨G, ρ, rep, fin⟩ => ⟨G, ρ, rep, finIA_bind fin fun vs ds ρ1 H1 G1 rep1 st1 rk fin1 => ?_⟩
  obtain ⟨is, e, fin2⟩ := fin1.ka
  unfold k_enumT at e
  split at e
  · cases e
    obtain ⟨k', v, h1, rfl, h2⟩ := one_of rk
    cases h1
    cases (show Dt Γ G1 v (.str _) from h2)
    exact ⟨_, rfl, fin2 _ H1 G1 none (fun _ => rfl) rep1 st1 (fun _ _ z => nomatch z) wd_enumT⟩
  · cases e
theorem mi_rev {k : Kd} {K : PySem.W.Frag} (hg : Gl X "reversed") (hm : X.mg "reversed" = none) (ha : PA X [e] (tA Γ cs ts W [k] g)) (hk : k.lm b = true := by rfl) (hK : X.K = K := by rfl) (hΓ : Γ.K = K := by rfl) (hs : starEach [e] X.env = [(false, eval e X.env)] := by rfl) :
    PI X tg (.Call (.Name "reversed" p) [e] [] pos) (tI Γ cs ts W b (iA k_rev g)) := by
  subst hK
  refine PI.imp (pi_reversed hg hm ha hs) fun σ H Rr ⟨G, ρ, rep, fin⟩ => ⟨G, ρ, rep, finIA_bind fin fun vs ds ρ1 H1 G1 rep1 st1 rk fin1 => ?_⟩
  obtain ⟨is, e, fin2⟩ := fin1.ka
  unfold k_rev at e
  split at e
  · obtain ⟨ds, e1, rfl⟩ := Option.map_eq_some_iff.mp e
    obtain ⟨k', v, h1, rfl, h2⟩ := one_of rk
    cases h1
    obtain ⟨a, vs, ro, rfl, q1, q2, q3, q4⟩ := rk_stood hk rep1.sub h2 e1
    rw [← hΓ]
    exact ⟨a, vs, rfl, q1.sees rep1.sub q4, fin2 _ H1 G1 ro q3 rep1 st1 q4 (wd_rev q1 q2)⟩
  · cases e
theorem mi_zip {e2 : Expr} {elts : List Expr} {kk : Nat} {tpos : Pos} {K : PySem.W.Frag} (hg : Gl X "zip") (hm : X.mg "zip" = none) (ha : PA X [e, e2] (tA Γ cs ts W [.full, .full] g)) (hK : X.K = K := by rfl) (hΓ : Γ.K = K := by rfl)
    (hs : starEach [e, e2] X.env = (false, eval e X.env) :: starEach [e2] X.env := by rfl) (hpl : (backTo pos (starEach [e2] X.env)).any (·.1) = false := by rfl) :
    PI X (.Tuple elts kk tpos) (.Call (.Name "zip" p) [e, e2] [] pos) (tI Γ cs ts W b (iA k_zip g)) := by
  subst hK
  refine PI.imp (pi_zip hg hm ha hs hpl) fun σ H Rr ⟨G, ρ, rep, fin⟩ => ⟨G, ρ, rep, finIA_bind fin fun vs ds ρ1 H1 G1 rep1 st1 rk fin1 => ?_⟩
  obtain ⟨is, e, fin2⟩ := fin1.ka
  unfold k_zip at e
  split at e
  · obtain ⟨as, e1, e2⟩ := Option.bind_eq_some_iff.mp e
    obtain ⟨bs, e3, rfl⟩ := Option.map_eq_some_iff.mp e2
    obtain ⟨k, v, k2, v2, h1, rfl, h2, h3⟩ := two_of rk
    cases h1
    obtain ⟨a, vs, ro, rfl, q1, q2, q3, q4⟩ := rk_stood (b := false) rfl rep1.sub h2 e1
    obtain ⟨a', vs', ro', rfl, q1', q2', q3', q4'⟩ := rk_stood (b := false) rfl rep1.sub h3 e3
    have n1 := q3 rfl
    have n2 := q3' rfl
    subst n1 n2
    have s1 : SqL Γ.K G1 a vs := q1.elim id fun z => nomatch z.1
    have s2 : SqL Γ.K G1 a' vs' := q1'.elim id fun z => nomatch z.1
    rw [← hΓ]
    exact ⟨a, a', vs, vs', rfl, rep1.sub.seq s1, rep1.sub.seq s2, fin2 _ H1 G1 none (fun _ => rfl) rep1 st1 (fun _ _ z => nomatch z) (wd_zip s1 s2 q2 q2')⟩
  · cases e
end
/-! ### comprehensions -/
def wipeD (ρ : Env) : List Nat → Env
  | [] => ρ
  | v :: vs => (wipeD ρ vs).set v none
/-- the slots vs as ρ has them, the rest as ρ' has it -/
def setO (ρ r : Env) (i : Nat) : Env := match ρ[i]? with
  | some x => r.set i x
  | none => r
def restD (vs : List Nat) (ρ ρ' : Env) : Env := vs.foldl (setO ρ) ρ'
theorem setO_len (ρ r : Env) (i : Nat) : (setO ρ r i).length = r.length := by
  unfold setO
  split
  · rw [List.length_set]
  · rfl
theorem setO_out {ρ r : Env} {i j : Nat} (h : j ≠ i) : (setO ρ r j)[i]? = r[i]? := by
  unfold setO
  split
  · rw [List.getElem?_set_ne h]
  · rfl
theorem setO_in {ρ r : Env} {i : Nat} (h : r.length = ρ.length) : (setO ρ r i)[i]? = ρ[i]? := by
  unfold setO
  cases q : ρ[i]? with
  | none =>
    dsimp only
    rw [List.getElem?_eq_none_iff] at q ⊢
    omega
  | some x =>
    dsimp only
    rw [List.getElem?_set_self (by have := (List.getElem?_eq_some_iff.mp q).1; omega)]
def compF (vs : List Nat) (t : Tg) (c : Option E) (f : E) : List D → List D → E
  | [], acc, ρ => some (.ok (.lst acc) ρ)
  | d :: ds, acc, ρ => match tgtD t d (wipeD ρ vs) with
    | none => none
    | some ρ1 => match (match c with
        | none => (some (R.ok (.bl true) ρ1) : Option R)
        | some c => c ρ1) with
      | some (.ok (.bl true) ρ2) => (match f ρ2 with
        | some (.ok z ρ3) => if acc.length < sizeLine then compF vs t c f ds (acc ++ [z]) (restD vs ρ ρ3) else none
        | _ => none)
      | some (.ok (.bl false) ρ2) => compF vs t c f ds acc (restD vs ρ ρ2)
      | _ => none
def eComp (vs : List Nat) (t : Tg) (c : Option E) (f src : E) : E := fun ρ => eBind (src ρ) fun d ρ1 => match d with
  | .lst items => compF vs t c f items [] ρ1
  | _ => none
theorem wipeD_len (ρ : Env) : ∀ vs : List Nat, (wipeD ρ vs).length = ρ.length
  | [] => rfl
  | v :: vs => by unfold wipeD; rw [List.length_set, wipeD_len ρ vs]
theorem wipeD_in {ρ : Env} {i : Nat} : ∀ {vs : List Nat}, i ∈ vs → i < ρ.length → (wipeD ρ vs)[i]? = some none
  | v :: vs, h, hl => by
    unfold wipeD
    by_cases e : v = i
    · subst e
      rw [List.getElem?_set_self (by rw [wipeD_len]; exact hl)]
    · rw [List.getElem?_set_ne e]
      exact wipeD_in ((List.mem_cons.mp h).elim (fun z => absurd z.symm e) id) hl
theorem wipeD_out {ρ : Env} {i : Nat} : ∀ {vs : List Nat}, i ∉ vs → (wipeD ρ vs)[i]? = ρ[i]?
  | [], _ => rfl
  | v :: vs, h => by
    unfold wipeD
    rw [List.getElem?_set_ne (fun z => h (by rw [z]; exact List.mem_cons_self))]
    exact wipeD_out fun z => h (List.mem_cons_of_mem _ z)
theorem wipe_in {σ : L2.St} {i : Nat} : ∀ {vs : List Nat}, i ∈ vs → i < σ.length → (wipe σ vs)[i]? = some none
  | v :: vs, h, hl => by
    unfold wipe
    by_cases e : v = i
    · subst e
      rw [List.getElem?_set_self (by rw [wipe_length]; exact hl)]
    · rw [List.getElem?_set_ne e]
      exact wipe_in ((List.mem_cons.mp h).elim (fun z => absurd z.symm e) id) hl
theorem wipe_out {σ : L2.St} {i : Nat} : ∀ {vs : List Nat}, i ∉ vs → (wipe σ vs)[i]? = σ[i]?
  | [], _ => rfl
  | v :: vs, h => by
    unfold wipe
    rw [List.getElem?_set_ne (fun z => h (by rw [z]; exact List.mem_cons_self))]
    exact wipe_out fun z => h (List.mem_cons_of_mem _ z)
theorem Rep.wipe (rep : Rep Γ cs σ H G ρ) {vs : List Nat} (hv : ∀ i ∈ vs, i ∉ cs) : Rep Γ cs (L2.wipe σ vs) H G (wipeD ρ vs) := by
  refine ⟨by rw [wipeD_len, wipe_length]; exact rep.len, rep.sub, fun i h => ?_, fun i d hi h => ?_, fun i d hi h => ?_, fun i j a hi hj h1 h2 => ?_⟩
  · have hl := (List.getElem?_eq_some_iff.mp h).1
    rw [wipeD_len] at hl
    by_cases c : i ∈ vs
    · exact wipe_in c (by rw [← rep.len]; exact hl)
    · rw [wipeD_out c] at h
      rw [wipe_out c]
      exact rep.un i h
  · have hl := (List.getElem?_eq_some_iff.mp h).1
    rw [wipeD_len] at hl
    by_cases c : i ∈ vs
    · rw [wipeD_in c hl] at h; cases h
    · rw [wipeD_out c] at h
      rw [wipe_out c]
      exact rep.dat i d hi h
  · have c : i ∉ vs := fun z => hv i z hi
    rw [wipeD_out c] at h
    rw [wipe_out c]
    exact rep.own i d hi h
  · rw [wipe_out fun z => hv i z hi] at h1
    rw [wipe_out fun z => hv j z hj] at h2
    exact rep.sep i j a hi hj h1 h2
theorem restD_len (ρ : Env) : ∀ (vs : List Nat) (ρ' : Env), (restD vs ρ ρ').length = ρ'.length
  | [], _ => rfl
  | v :: vs, ρ' => by
    show (restD vs ρ (setO ρ ρ' v)).length = _
    rw [restD_len ρ vs, setO_len]
theorem restD_out {ρ : Env} {i : Nat} : ∀ {vs : List Nat} {ρ' : Env}, i ∉ vs → (restD vs ρ ρ')[i]? = ρ'[i]?
  | [], _, _ => rfl
  | v :: vs, ρ', h => by
    show (restD vs ρ (setO ρ ρ' v))[i]? = _
    rw [restD_out fun z => h (List.mem_cons_of_mem _ z), setO_out fun z => h (by rw [z]; exact List.mem_cons_self)]
theorem restD_in {ρ : Env} {i : Nat} : ∀ {vs : List Nat} {ρ' : Env}, i ∈ vs → ρ'.length = ρ.length → (restD vs ρ ρ')[i]? = ρ[i]?
  | v :: vs, ρ', h, hl => by
    show (restD vs ρ (setO ρ ρ' v))[i]? = _
    by_cases c : i ∈ vs
    · exact restD_in c (by rw [setO_len]; exact hl)
    · rw [restD_out c]
      have e : i = v := (List.mem_cons.mp h).elim id fun z => absurd z c
      subst e
      exact setO_in hl
/-- back in the outer slots -/
theorem Rep.rest {σ2 : L2.St} {ρ0 ρ2 : Env} {H2 G2 : Hp} {vs : List Nat} (rep0 : Rep Γ cs σ H G ρ0) (sg : Same G G2) (rep2 : Rep Γ cs σ2 H2 G2 ρ2) (hv : ∀ i ∈ vs, i ∉ cs) (hl : σ2.length = σ.length) (ho : ∀ i, i ∉ vs → σ2[i]? = σ[i]?) : Rep Γ cs σ H2 G2 (restD vs ρ0 ρ2) := by
  have l2 : ρ2.length = ρ0.length := rep2.len.trans (hl.trans rep0.len.symm)
  refine ⟨by rw [restD_len, rep2.len, hl], rep2.sub, fun i h => ?_, fun i d hi h => ?_, fun i d hi h => ?_, rep0.sep⟩
  · by_cases c : i ∈ vs
    · rw [restD_in c l2] at h
      exact rep0.un i h
    · rw [restD_out c] at h
      rw [← ho i c]
      exact rep2.un i h
  · by_cases c : i ∈ vs
    · rw [restD_in c l2] at h
      obtain ⟨v, h1, h2⟩ := rep0.dat i d hi h
      exact ⟨v, h1, h2.same sg⟩
    · rw [restD_out c] at h
      rw [← ho i c]
      exact rep2.dat i d hi h
  · have c : i ∉ vs := fun z => hv i z hi
    rw [restD_out c] at h
    rw [← ho i c]
    exact rep2.own i d hi h
def tC' (Γ : Ga) (cs ts : List Nat) : Option E → TT
  | none => tYes
  | some c => tT Γ cs ts W0 c
theorem Stp.slots {σ σ' : L2.St} (hs : ∀ i ∈ ts, σ'[i]? = σ[i]?) (s : Stp (T ts σ') H G H1 G1) : Stp (T ts σ) H G H1 G1 := s.mono fun a ⟨i, hi, h⟩ => ⟨i, hi, (hs i hi).symm.trans h⟩
theorem comp_core {t : Tg} {c : Option E} {src : E} {vs : List Nat} {b : Bool} {Q : VK} {wi : TI} (hwi : ∀ σ H Rr, tI Γ cs ts W b src σ H Rr → wi σ H Rr) (hv : ∀ i ∈ vs, i ∉ cs) (hsl : ∀ i ∈ t.sl, i ∈ vs) (hts : ∀ i ∈ ts, i ∈ cs) (hb : b = false ∨ ts = []) (h : tE Γ cs ts W .own (eComp vs t c f src) σ H Q) :
    tLc wi (tG Γ [] cs t) (tC' Γ cs ts c) (tE Γ cs ts W0 .full f) vs σ H Q := by
  obtain ⟨G, ρ, rep, fin⟩ := h
  refine hwi σ H _ ⟨G, ρ, rep, ?_⟩
  unfold eComp at fin
  generalize src ρ = r at fin ⊢
  rcases r with _ | ⟨d, ρ1⟩ | ⟨x, ρ1⟩
  · exact fin
  · cases d with
    | lst items =>
      intro J H1 G1 ro hro rep1 st1 hroot wd L nD
      have fin1 : Fin Γ cs ts W .own σ H G Q (compF vs t c f items [] ρ1) := fin
      obtain ⟨Gp, Y, wk, wg, wy⟩ := wd.ex
      have nDG : G1 L = none := free_sub rep1.sub nD
      have HD : H L = none := by
        cases e : H L with
        | none => rfl
        | some u => exact absurd nD (st1.t L (by rw [e]; intro z; cases z))
      refine lc_it wk (fun i H' => ∃ G' ρ' vacc acc, Rep Γ cs σ H' G' ρ' ∧ Stp (T ts σ) H1 G1 H' G' ∧ H' L = some (.lst vacc) ∧ G' L = none ∧ Dts Γ G' vacc acc ∧ Fin Γ cs ts W .own σ H G Q (compF vs t c f (items.drop i) acc ρ'))
        ⟨G1, ρ1, [], [], rep1.ext (Ext.newOwn rep1.sub nD), (Ext.newOwn rep1.sub nD).any, upd_same, nDG, .nil, fin1⟩
        (fun i H' _ ⟨G', ρ', vacc, acc, rep', st', _⟩ => wg H' (st'.g.trans rep'.sub) fun a o e => ?_) (fun i x H' H2 hi ⟨G', ρ', vacc, acc, rep', st', hD', nD', dt', fin'⟩ y => ?_) fun H' ⟨G', ρ', vacc, acc, rep', st', hD', nD', dt', fin'⟩ => ?_
      · rcases hb with hb | hb
        · rw [hro hb] at e; cases e
        · subst hb
          exact st'.h a o (hroot a o e) T.nil
      · have hd : items[i]? = some items[i] := List.getElem?_eq_getElem hi
        obtain ⟨G2, ex2, dt2⟩ := wy i H' x H2 items[i] G' hd st'.g rep'.sub y
        rw [List.drop_eq_getElem_cons hi] at fin'
        unfold compF at fin'
        cases q : tgtD t items[i] (wipeD ρ' vs) with
        | none => rw [q] at fin'; exact fin'.elim
        | some ρ2 =>
          rw [q] at fin'
          have rep2 := (rep'.ext ex2).wipe hv
          have rep2o := rep'.ext ex2
          refine ⟨G2, _, _, ρ2, rep2, dt2, q, fun σ3 st3 => ?_⟩
          obtain ⟨rep3, tn3, _, out3⟩ := st3
          have len3 : σ3.length = σ.length := by
            rw [← rep3.len, ← rep'.len]
            have : ∀ (t : Tg) (d : D) (ρ ρ2 : Env), tgtD t d ρ = some ρ2 → ρ2.length = ρ.length := by
              intro t
              refine Tg.rec (motive_1 := fun t => ∀ (d : D) (ρ ρ2 : Env), tgtD t d ρ = some ρ2 → ρ2.length = ρ.length) (motive_2 := fun ts => ∀ (ds : List D) (ρ ρ2 : Env), tgtsD ts ds ρ = some ρ2 → ρ2.length = ρ.length) ?_ ?_ ?_ ?_ t
              · intro i d ρ ρ2 h
                unfold tgtD at h
                cases h
                rw [List.length_set]
              · intro ts ih d ρ ρ2 h
                cases d with
                | tup ds => exact ih ds ρ ρ2 h
                | _ => unfold tgtD at h; cases h
              · intro ds ρ ρ2 h
                cases ds with
                | nil => unfold tgtsD at h; cases h; rfl
                | cons => unfold tgtsD at h; cases h
              · intro t ts ih1 ih2 ds ρ ρ2 h
                cases ds with
                | nil => unfold tgtsD at h; cases h
                | cons d ds =>
                  unfold tgtsD at h
                  obtain ⟨ρ3, e1, e2⟩ := Option.bind_eq_some_iff.mp h
                  rw [ih2 ds ρ3 ρ2 e2, ih1 d ρ ρ3 e1]
            rw [this _ _ _ _ q, wipeD_len]
          have out : ∀ i, i ∉ vs → σ3[i]? = σ[i]? := fun i hi => (out3 i fun z => hi (hsl i z)).trans (wipe_out hi)
          have wq : L2.wipe σ3 vs = L2.wipe σ vs := by
            apply List.ext_getElem?
            intro i
            by_cases c : i ∈ vs
            · by_cases hl : i < σ.length
              · rw [wipe_in c (by rw [len3]; exact hl), wipe_in c hl]
              · rw [List.getElem?_eq_none (by rw [wipe_length, len3]; omega), List.getElem?_eq_none (by rw [wipe_length]; omega)]
            · rw [wipe_out c, wipe_out c, out i c]
          have sl : ∀ i ∈ ts, σ3[i]? = σ[i]? := fun i hi => out i fun z => hv i z (hts i hi)
          have hD2 : H2 L = some (.lst vacc) := ex2.h _ _ hD'
          have nD2 : G2 L = none := ex2.st.n L nD' (by rw [hD']; intro z; cases z) fun z => z
          have nT : ∀ (H : Hp) (G : Hp) (ρ : Env), Rep Γ cs σ H G ρ → H L = none → ¬ T ts σ L := fun H G ρ r e z => (r.tc (T.sub hts z)).1 e
          have nTD : ¬ T ts σ L := nT H G ρ rep HD
          refine ⟨wq, ?_⟩
          -- the test
          have key : ∀ (b : Bool) (ρ3 : Env) (H3 G3 : Hp), Rep Γ cs σ3 H3 G3 ρ3 → Stp (T ts σ3) H2 G2 H3 G3 → Fin Γ cs ts W .own σ H G Q (match b with
              | true => (match f ρ3 with
                | some (.ok z ρ4) => if acc.length < sizeLine then compF vs t c f (items.drop (i + 1)) (acc ++ [z]) (restD vs ρ' ρ4) else none
                | _ => none)
              | false => compF vs t c f (items.drop (i + 1)) acc (restD vs ρ' ρ3)) →
              if b = true then tE Γ cs ts W0 .full f σ3 H3 (fun y H4 => ∃ acc', H4 L = some (.lst acc') ∧ acc'.length < sizeLine ∧ ∃ G' ρ' vacc acc, Rep Γ cs σ (upd H4 L (.lst (acc' ++ [y]))) G' ρ' ∧ Stp (T ts σ) H1 G1 (upd H4 L (.lst (acc' ++ [y]))) G' ∧
                  (upd H4 L (.lst (acc' ++ [y]))) L = some (.lst vacc) ∧ G' L = none ∧ Dts Γ G' vacc acc ∧ Fin Γ cs ts W .own σ H G Q (compF vs t c f (items.drop (i + 1)) acc ρ'))
                else ∃ G' ρ' vacc acc, Rep Γ cs σ H3 G' ρ' ∧ Stp (T ts σ) H1 G1 H3 G' ∧ H3 L = some (.lst vacc) ∧ G' L = none ∧ Dts Γ G' vacc acc ∧ Fin Γ cs ts W .own σ H G Q (compF vs t c f (items.drop (i + 1)) acc ρ') := by
            intro b ρ3 H3 G3 r3 s3 f3
            have s3' := s3.slots sl
            have hD3 : H3 L = some (.lst vacc) := s3'.h _ _ hD2 nTD
            have nD3 : G3 L = none := s3'.n L nD2 (by rw [hD2]; intro z; cases z) nTD
            cases b with
            | false =>
              rw [if_neg Bool.false_ne_true]
              exact ⟨G3, _, vacc, acc, rep2o.rest s3.g r3 hv len3 out, st'.tr (ex2.any.tr s3'), hD3, nD3, dt'.same (ex2.st.g.trans s3.g), f3⟩
            | true =>
              rw [if_pos rfl]
              refine ⟨G3, ρ3, r3, ?_⟩
              dsimp only at f3
              generalize f ρ3 = r4 at f3 ⊢
              rcases r4 with _ | ⟨z, ρ4⟩ | ⟨z, ρ4⟩
              · exact f3
              · intro v H4 G4 rep4 st4 rm4
                dsimp only at f3
                have st4' := st4.slots sl
                have hD4 : H4 L = some (.lst vacc) := st4'.h _ _ hD3 nTD
                have nD4 : G4 L = none := st4'.n L nD3 (by rw [hD3]; intro z; cases z) nTD
                by_cases hlen : acc.length < sizeLine
                · rw [if_pos hlen] at f3
                  have d4 : Dts Γ G4 vacc acc := dt'.same (ex2.st.g.trans (s3.g.trans st4.g))
                  have repo := rep2o.rest (s3.g.trans st4.g) rep4 hv len3 out
                  refine ⟨vacc, hD4, by rw [d4.len]; exact hlen, G4, restD vs ρ' ρ4, vacc ++ [v], acc ++ [z], ?_, ?_, upd_same, nD4, d4.app (.cons rm4 .nil), f3⟩
                  · -- the list at D has grown: no slot knows it
                    refine ⟨repo.len, fun x u hx => ?_, repo.un, repo.dat, fun j d hj h => ?_, repo.sep⟩
                    · rw [upd_ne (ne_of_none hx nD4)]
                      exact repo.sub _ _ hx
                    · obtain ⟨a, o, q1, q2, q3, q4⟩ := repo.own j d hj h
                      refine ⟨a, o, q1, ?_, q3, q4⟩
                      rw [upd_ne]
                      · exact q2
                      · rintro rfl
                        exact (rep.tc ⟨j, hj, q1⟩).1 HD
                  · have s04 : Stp (T ts σ) H1 G1 H4 G4 := st'.tr (ex2.any.tr (s3'.tr st4'))
                    refine ⟨s04.g, fun x u hx nx => ?_, fun x hx => ?_, s04.n⟩
                    · rw [upd_ne (ne_of_none hx nD)]
                      exact s04.h x u hx nx
                    · by_cases e : x = L
                      · rw [e, upd_same]; intro z; cases z
                      · rw [upd_ne e]; exact s04.t x hx
                · rw [if_neg hlen] at f3
                  exact f3.elim
              · exact f3.elim
          cases c with
          | none => exact key true ρ2 H2 G2 rep3 Stp.refl fin'
          | some c =>
            refine ⟨G2, ρ2, rep3, ?_⟩
            dsimp only at fin'
            generalize c ρ2 = r3 at fin' ⊢
            rcases r3 with _ | ⟨z, ρ3⟩ | ⟨z, ρ3⟩
            · exact fin'
            · cases z with
              | bl b =>
                intro H3 G3 rep4 st4
                refine key b ρ3 H3 G3 rep4 st4 ?_
                cases b <;> exact fin'
              | _ => exact (show False from fin').elim
            · exact fin'.elim
      · rw [List.drop_length] at fin'
        have fin2 : Fin Γ cs ts W .own σ H G Q (some (.ok (.lst acc) ρ')) := fin'
        exact fin2 (.ref L) H' G' rep' (st1.tr st') ⟨L, _, rfl, HD, hD', nD', .lst dt'⟩
    | _ => exact (show False from fin).elim
  · exact fin
section
variable {elt tg iter : Expr} {ifs : List Expr} {scope : Scope} {own : List (Str × Nat)} {pos : Pos} {t : Tg} {c : Option E} {src : E} {b : Bool}
theorem me_lc (hc : X.calm = true) (hN : X.N.Nodup) (hi : PI X tg iter (tI Γ cs ts W b src)) (ok : BlkOk X.N X.env.scope scope own)
    (hg : ∀ (s : Shared) (H : Hp) (C : Addr) (cl : List (Str × Addr)) (fp : List Addr), PG (X.blk s H scope (compEnvC scope cl C X.env) fp) tg (tG Γ [] cs t)) (ht : ∀ (s : Shared) (H : Hp) (C : Addr) (cl : List (Str × Addr)) (fp : List Addr), PTs (X.blk s H scope (compEnvC scope cl C X.env) fp) ifs (tC' Γ cs ts c))
    (he : ∀ (s : Shared) (H : Hp) (C : Addr) (cl : List (Str × Addr)) (fp : List Addr), PE (X.blk s H scope (compEnvC scope cl C X.env) fp) elt (tE Γ cs ts W0 .full f)) (hv : ∀ i ∈ own.map (·.2), i ∉ cs := by decide) (hsl : ∀ i ∈ t.sl, i ∈ own.map (·.2) := by decide)
    (hts : ∀ i ∈ ts, i ∈ cs := by first | exact nil_sub | exact all_sub) (hb : b = false ∨ ts = [] := by first | exact .inl rfl | exact .inr rfl) (hs : ∀ x, foldedSetIterable iter X.env x = pure x := by intro _; rfl) :
    PE X (.ListComp elt [⟨tg, iter, ifs, 0⟩] scope pos) (tE Γ cs ts W .own (eComp (own.map (·.2)) t c f src)) :=
  PE.imp (pe_lc hc hN hi ok hg ht he hs) fun _ _ _ h => comp_core (fun _ _ _ h => h) hv hsl hts hb h
theorem mts_nil : PTs X [] (tC' Γ cs ts none) := pts_nil
theorem mts_one {c : E} {x : Expr} (h : PT X x (tT Γ cs ts W0 c)) : PTs X [x] (tC' Γ cs ts (some c)) := pts_one h
variable {S : Sx} {i : Nat} {y : Str} {py spos : Pos} {cs' : List Nat}
theorem ms_lcOwn (hc : X.calm = true) (hN : X.N.Nodup) (hy : X.N[i]? = some y) (hyl : X.env.scope.names.lookup y = some .local) (hsw : swapsWith (.ListComp elt [⟨tg, iter, ifs, 0⟩] scope pos) (some (.Name y py)) spos.line X.env = pure true)
    (hi : PI X tg iter (tI Γ cs cs S.W b src)) (ok : BlkOk X.N X.env.scope scope own)
    (hg : ∀ (s : Shared) (H : Hp) (C : Addr) (cl : List (Str × Addr)) (fp : List Addr), PG (X.blk s H scope (compEnvC scope cl C X.env) fp) tg (tG Γ [] cs t)) (ht : ∀ (s : Shared) (H : Hp) (C : Addr) (cl : List (Str × Addr)) (fp : List Addr), PTs (X.blk s H scope (compEnvC scope cl C X.env) fp) ifs (tC' Γ cs cs c))
    (he : ∀ (s : Shared) (H : Hp) (C : Addr) (cl : List (Str × Addr)) (fp : List Addr), PE (X.blk s H scope (compEnvC scope cl C X.env) fp) elt (tE Γ cs cs W0 .full f)) (hv : ∀ i ∈ own.map (·.2), i ∉ cs := by decide) (hsl : ∀ i ∈ t.sl, i ∈ own.map (·.2) := by decide)
    (hb : b = false ∨ cs = [] := by first | exact .inl rfl | exact .inr rfl) (h1 : i ∈ cs' := by first | decide | (dsimp only [fxOf]; decide)) (h2 : ∀ j ∈ cs, j ∈ cs' := by first | decide | (dsimp only [fxOf]; decide)) (h3 : ∀ j ∈ cs', j = i ∨ j ∈ cs := by first | decide | (dsimp only [fxOf]; decide)) (hf : i ∉ S.fx := by first | decide | (dsimp only [fxOf]; decide)) (hx : ∀ i ∈ S.xc, i ∈ cs := by first | decide | (dsimp only [fxOf]; decide))
    (hs : ∀ x, foldedSetIterable iter X.env x = pure x := by intro _; rfl) : PS X (.Assign [.Name y py] (.ListComp elt [⟨tg, iter, ifs, 0⟩] scope pos) spos) (tS Γ S cs cs' (sSet i (eComp (own.map (·.2)) t c f src))) :=
  ms_own0 (ps_setLc hc hN hy hyl hsw hi ok hg ht he hs) (fun _ _ _ h => comp_core (fun _ _ _ h => h) hv hsl all_sub hb h) h1 h2 h3 hf hx
theorem tE_own_full {Q : VK} (h : tE Γ cs ts W .full f σ H Q) : tE Γ cs ts W .own f σ H Q := by
  obtain ⟨G, ρ, rep, fin⟩ := h
  refine ⟨G, ρ, rep, ?_⟩
  revert fin
  cases f ρ with
  | none => exact fun h => h
  | some r =>
    cases r with
    | ok d ρ' =>
      intro h v H' G' r s q
      obtain ⟨G2, r2, s2, d2, _⟩ := own_full rep r s q
      exact h v H' G2 r2 s2 d2
    | ex x ρ' => exact fun h => h
theorem ms_lcSet (hc : X.calm = true) (hN : X.N.Nodup) (hy : X.N[i]? = some y) (hyl : X.env.scope.names.lookup y = some .local) (hsw : swapsWith (.ListComp elt [⟨tg, iter, ifs, 0⟩] scope pos) (some (.Name y py)) spos.line X.env = pure true)
    (hi : PI X tg iter (tI Γ cs cs S.W b src)) (ok : BlkOk X.N X.env.scope scope own)
    (hg : ∀ (s : Shared) (H : Hp) (C : Addr) (cl : List (Str × Addr)) (fp : List Addr), PG (X.blk s H scope (compEnvC scope cl C X.env) fp) tg (tG Γ [] cs t)) (ht : ∀ (s : Shared) (H : Hp) (C : Addr) (cl : List (Str × Addr)) (fp : List Addr), PTs (X.blk s H scope (compEnvC scope cl C X.env) fp) ifs (tC' Γ cs cs c))
    (he : ∀ (s : Shared) (H : Hp) (C : Addr) (cl : List (Str × Addr)) (fp : List Addr), PE (X.blk s H scope (compEnvC scope cl C X.env) fp) elt (tE Γ cs cs W0 .full f)) (hv : ∀ i ∈ own.map (·.2), i ∉ cs := by decide) (hsl : ∀ i ∈ t.sl, i ∈ own.map (·.2) := by decide)
    (hb : b = false ∨ cs = [] := by first | exact .inl rfl | exact .inr rfl) (hi' : i ∉ cs := by first | decide | (dsimp only [fxOf]; decide)) (hf : i ∉ S.fx := by first | decide | (dsimp only [fxOf]; decide)) (hx : ∀ i ∈ S.xc, i ∈ cs := by first | decide | (dsimp only [fxOf]; decide))
    (hs : ∀ x, foldedSetIterable iter X.env x = pure x := by intro _; rfl) : PS X (.Assign [.Name y py] (.ListComp elt [⟨tg, iter, ifs, 0⟩] scope pos) spos) (tS Γ S cs cs (sSet i (eComp (own.map (·.2)) t c f src))) :=
  ms_set0 (ps_setLc hc hN hy hyl hsw hi ok hg ht he hs) (fun _ _ _ h => comp_core (fun _ _ _ h => h) hv hsl all_sub hb (tE_own_full h)) hi' hf hx
end
end
end Mi

set_option linter.all false
namespace Lk
/-! ### cells of a box that have a property, and halves of a block -/
def cntB (P : Nat → Nat → Bool) (x y : Nat) : Nat → Nat → Nat
  | 0, _ => 0
  | w + 1, h => cntB P x y w h + (List.range h).countP (fun b => P (x + w) (y + b))
theorem cntB_congr {P Q : Nat → Nat → Bool} {x y x' y' h : Nat} : ∀ w, (∀ a b, a < w → b < h → P (x + a) (y + b) = Q (x' + a) (y' + b)) → cntB P x y w h = cntB Q x' y' w h
  | 0, _ => rfl
  | w + 1, e => by
    show cntB P x y w h + _ = cntB Q x' y' w h + _
    rw [cntB_congr w fun a b ha hb => e a b (by omega) hb]
    congr 1
    apply List.countP_congr
    intro b hb
    rw [e w b (by omega) (List.mem_range.mp hb)]
theorem cntB_addw (P : Nat → Nat → Bool) (x y h a : Nat) : ∀ c, cntB P x y (a + c) h = cntB P x y a h + cntB P (x + a) y c h
  | 0 => rfl
  | c + 1 => by
    show cntB P x y (a + c) h + (List.range h).countP (fun b => P (x + (a + c)) (y + b)) = cntB P x y a h + (cntB P (x + a) y c h + (List.range h).countP (fun b => P (x + a + c) (y + b)))
    rw [cntB_addw P x y h a c, Nat.add_assoc x a c, Nat.add_assoc]
theorem cntB_addh (P : Nat → Nat → Bool) (x y a c : Nat) : ∀ w, cntB P x y w (a + c) = cntB P x y w a + cntB P x (y + a) w c
  | 0 => rfl
  | w + 1 => by
    show cntB P x y w (a + c) + (List.range (a + c)).countP (fun b => P (x + w) (y + b)) = cntB P x y w a + (List.range a).countP (fun b => P (x + w) (y + b)) + (cntB P x (y + a) w c + (List.range c).countP (fun b => P (x + w) (y + a + b)))
    rw [cntB_addh P x y a c w, List.range_add, List.countP_append, List.countP_map]
    have : (List.range c).countP ((fun b => P (x + w) (y + b)) ∘ fun x => a + x) = (List.range c).countP (fun b => P (x + w) (y + a + b)) := by
      apply List.countP_congr
      intro b _
      show P (x + w) (y + (a + b)) = true ↔ _
      rw [Nat.add_assoc]
    rw [this]
    omega
theorem cntB_true {P : Nat → Nat → Bool} {x y h : Nat} : ∀ w, (∀ a b, a < w → b < h → P (x + a) (y + b) = true) → cntB P x y w h = w * h
  | 0, _ => by rw [Nat.zero_mul]; rfl
  | w + 1, e => by
    show cntB P x y w h + _ = _
    rw [cntB_true w fun a b ha hb => e a b (by omega) hb, Nat.succ_mul]
    congr 1
    rw [List.countP_eq_length.mpr (fun b hb => e w b (by omega) (List.mem_range.mp hb)), List.length_range]
theorem cntB_false {P : Nat → Nat → Bool} {x y h : Nat} : ∀ w, (∀ a b, a < w → b < h → P (x + a) (y + b) = false) → cntB P x y w h = 0
  | 0, _ => rfl
  | w + 1, e => by
    show cntB P x y w h + _ = _
    rw [cntB_false w fun a b ha hb => e a b (by omega) hb, List.countP_eq_zero.mpr (fun b hb => by rw [e w b (by omega) (List.mem_range.mp hb)]; decide)]
theorem cntB_le {P : Nat → Nat → Bool} {x y h : Nat} : ∀ w, cntB P x y w h ≤ w * h
  | 0 => Nat.zero_le _
  | w + 1 => by
    have h1 : cntB P x y w h ≤ w * h := cntB_le w
    have h2 := List.countP_le_length (p := fun b => P (x + w) (y + b)) (l := List.range h)
    rw [List.length_range] at h2
    show cntB P x y w h + _ ≤ _
    rw [Nat.succ_mul]
    omega
theorem cntB_mono {P Q : Nat → Nat → Bool} {x y h : Nat} : ∀ w, (∀ a b, a < w → b < h → P (x + a) (y + b) = true → Q (x + a) (y + b) = true) → cntB P x y w h ≤ cntB Q x y w h
  | 0, _ => Nat.le_refl _
  | w + 1, e => by
    have h1 := cntB_mono w fun a b ha hb => e a b (by omega) hb
    have h2 : (List.range h).countP (fun b => P (x + w) (y + b)) ≤ (List.range h).countP (fun b => Q (x + w) (y + b)) := List.countP_mono_left fun b hb => e w b (by omega) (List.mem_range.mp hb)
    show cntB P x y w h + _ ≤ cntB Q x y w h + _
    omega
/-- a box, counted from the first cell of a block -/
abbrev P4 := Nat × Nat × Nat × Nat
def wP (p : P4) : Nat := p.2.2.1 + 1 - p.1
def hP (p : P4) : Nat := p.2.2.2 + 1 - p.2.1
def InBlk (l : List Bool) (p : P4) : Prop := p.1 ≤ p.2.2.1 ∧ p.2.1 ≤ p.2.2.2 ∧ p.2.2.1 < 2 ^ nx l ∧ p.2.2.2 < 2 ^ ny l
def loP (b : Bool) (i j : Nat) (p : P4) : Option P4 :=
  if b = true then (if p.1 < 2 ^ i then some (p.1, p.2.1, min p.2.2.1 (2 ^ i - 1), p.2.2.2) else none)
  else (if p.2.1 < 2 ^ j then some (p.1, p.2.1, p.2.2.1, min p.2.2.2 (2 ^ j - 1)) else none)
def hiP (b : Bool) (i j : Nat) (p : P4) : Option P4 :=
  if b = true then (if 2 ^ i ≤ p.2.2.1 then some (p.1 - 2 ^ i, p.2.1, p.2.2.1 - 2 ^ i, p.2.2.2) else none)
  else (if 2 ^ j ≤ p.2.2.2 then some (p.1, p.2.1 - 2 ^ j, p.2.2.1, p.2.2.2 - 2 ^ j) else none)
def areaP : Option P4 → Nat
  | none => 0
  | some p => wP p * hP p
def InO (l : List Bool) (o : Option P4) : Prop := ∀ p, o = some p → InBlk l p
theorem lo_in {b : Bool} {r : List Bool} {p : P4} (h : InBlk (b :: r) p) : InO r (loP b (nx r) (ny r) p) := by
  obtain ⟨x1, y1, x2, y2⟩ := p
  obtain ⟨h1, h2, h3, h4⟩ := h
  intro q e
  have px := two_pos (nx r)
  have py := two_pos (ny r)
  simp only at h1 h2 h3 h4
  unfold loP at e
  cases b with
  | true =>
    rw [if_pos rfl] at e
    rw [ny_t] at h4
    by_cases c : x1 < 2 ^ nx r
    · rw [if_pos c] at e
      cases e
      refine ⟨?_, h2, ?_, h4⟩ <;> simp only <;> omega
    · rw [if_neg c] at e
      cases e
  | false =>
    rw [if_neg (by decide)] at e
    rw [nx_f] at h3
    by_cases c : y1 < 2 ^ ny r
    · rw [if_pos c] at e
      cases e
      refine ⟨h1, ?_, h3, ?_⟩ <;> simp only <;> omega
    · rw [if_neg c] at e
      cases e
theorem hi_in {b : Bool} {r : List Bool} {p : P4} (h : InBlk (b :: r) p) : InO r (hiP b (nx r) (ny r) p) := by
  obtain ⟨x1, y1, x2, y2⟩ := p
  obtain ⟨h1, h2, h3, h4⟩ := h
  intro q e
  have px := two_pos (nx r)
  have py := two_pos (ny r)
  simp only at h1 h2 h3 h4
  unfold hiP at e
  cases b with
  | true =>
    rw [if_pos rfl] at e
    rw [ny_t] at h4
    rw [nx_t, Nat.pow_succ] at h3
    by_cases c : 2 ^ nx r ≤ x2
    · rw [if_pos c] at e
      cases e
      refine ⟨?_, h2, ?_, h4⟩ <;> simp only <;> omega
    · rw [if_neg c] at e
      cases e
  | false =>
    rw [if_neg (by decide)] at e
    rw [nx_f] at h3
    rw [ny_f, Nat.pow_succ] at h4
    by_cases c : 2 ^ ny r ≤ y2
    · rw [if_pos c] at e
      cases e
      refine ⟨h1, ?_, h3, ?_⟩ <;> simp only <;> omega
    · rw [if_neg c] at e
      cases e
/-- a count over a part, where the property is asked of the cells of the block -/
def cntP (P : Nat → Nat → Bool) (p : P4) : Nat := cntB P p.1 p.2.1 (wP p) (hP p)
def cntO (P : Nat → Nat → Bool) : Option P4 → Nat
  | none => 0
  | some p => cntP P p
def shX (b : Bool) (i : Nat) : Nat := if b = true then 2 ^ i else 0
def shY (b : Bool) (j : Nat) : Nat := if b = true then 0 else 2 ^ j
theorem cnt_halves {b : Bool} {r : List Bool} {p : P4} (h : InBlk (b :: r) p) (P : Nat → Nat → Bool) :
    cntP P p = cntO P (loP b (nx r) (ny r) p) + cntO (fun x y => P (shX b (nx r) + x) (shY b (ny r) + y)) (hiP b (nx r) (ny r) p) := by
  obtain ⟨x1, y1, x2, y2⟩ := p
  obtain ⟨h1, h2, h3, h4⟩ := h
  have px := two_pos (nx r)
  have py := two_pos (ny r)
  simp only at h1 h2 h3 h4
  unfold loP hiP shX shY
  cases b with
  | true =>
    rw [nx_t, Nat.pow_succ] at h3
    simp only [if_pos]
    by_cases c : x1 < 2 ^ nx r
    · rw [if_pos c]
      by_cases d : 2 ^ nx r ≤ x2
      · rw [if_pos d]
        show cntB P x1 y1 (x2 + 1 - x1) (y2 + 1 - y1) = cntB P x1 y1 (min x2 (2 ^ nx r - 1) + 1 - x1) (y2 + 1 - y1) + cntB _ (x1 - 2 ^ nx r) y1 (x2 - 2 ^ nx r + 1 - (x1 - 2 ^ nx r)) (y2 + 1 - y1)
        rw [show x2 + 1 - x1 = (min x2 (2 ^ nx r - 1) + 1 - x1) + (x2 - 2 ^ nx r + 1 - (x1 - 2 ^ nx r)) by omega, cntB_addw]
        congr 1
        apply cntB_congr
        intro a b _ _
        rw [show x1 + (min x2 (2 ^ nx r - 1) + 1 - x1) + a = 2 ^ nx r + (x1 - 2 ^ nx r + a) by omega, Nat.zero_add]
      · rw [if_neg d]
        show cntB P x1 y1 (x2 + 1 - x1) (y2 + 1 - y1) = cntB P x1 y1 (min x2 (2 ^ nx r - 1) + 1 - x1) (y2 + 1 - y1) + 0
        rw [show min x2 (2 ^ nx r - 1) = x2 by omega]
        rfl
    · rw [if_neg c, if_pos (by omega)]
      show cntB P x1 y1 (x2 + 1 - x1) (y2 + 1 - y1) = 0 + cntB _ (x1 - 2 ^ nx r) y1 (x2 - 2 ^ nx r + 1 - (x1 - 2 ^ nx r)) (y2 + 1 - y1)
      rw [Nat.zero_add, show x2 - 2 ^ nx r + 1 - (x1 - 2 ^ nx r) = x2 + 1 - x1 by omega]
      apply cntB_congr
      intro a b _ _
      rw [show x1 + a = 2 ^ nx r + (x1 - 2 ^ nx r + a) by omega, Nat.zero_add]
  | false =>
    rw [ny_f, Nat.pow_succ] at h4
    simp only [Bool.false_eq_true, if_false]
    by_cases c : y1 < 2 ^ ny r
    · rw [if_pos c]
      by_cases d : 2 ^ ny r ≤ y2
      · rw [if_pos d]
        show cntB P x1 y1 (x2 + 1 - x1) (y2 + 1 - y1) = cntB P x1 y1 (x2 + 1 - x1) (min y2 (2 ^ ny r - 1) + 1 - y1) + cntB _ x1 (y1 - 2 ^ ny r) (x2 + 1 - x1) (y2 - 2 ^ ny r + 1 - (y1 - 2 ^ ny r))
        rw [show y2 + 1 - y1 = (min y2 (2 ^ ny r - 1) + 1 - y1) + (y2 - 2 ^ ny r + 1 - (y1 - 2 ^ ny r)) by omega, cntB_addh]
        congr 1
        apply cntB_congr
        intro a b _ _
        rw [show y1 + (min y2 (2 ^ ny r - 1) + 1 - y1) + b = 2 ^ ny r + (y1 - 2 ^ ny r + b) by omega, Nat.zero_add]
      · rw [if_neg d]
        show cntB P x1 y1 (x2 + 1 - x1) (y2 + 1 - y1) = cntB P x1 y1 (x2 + 1 - x1) (min y2 (2 ^ ny r - 1) + 1 - y1) + 0
        rw [show min y2 (2 ^ ny r - 1) = y2 by omega]
        rfl
    · rw [if_neg c, if_pos (by omega)]
      show cntB P x1 y1 (x2 + 1 - x1) (y2 + 1 - y1) = 0 + cntB _ x1 (y1 - 2 ^ ny r) (x2 + 1 - x1) (y2 - 2 ^ ny r + 1 - (y1 - 2 ^ ny r))
      rw [Nat.zero_add, show y2 - 2 ^ ny r + 1 - (y1 - 2 ^ ny r) = y2 + 1 - y1 by omega]
      apply cntB_congr
      intro a b _ _
      rw [show y1 + b = 2 ^ ny r + (y1 - 2 ^ ny r + b) by omega, Nat.zero_add]
theorem cntP_true {P : Nat → Nat → Bool} {p : P4} (h : ∀ x y, x ≤ p.2.2.1 → y ≤ p.2.2.2 → P x y = true) : cntP P p = wP p * hP p := cntB_true _ fun a b ha hb => h _ _ (by unfold wP at ha; omega) (by unfold hP at hb; omega)
theorem cntP_congr {P Q : Nat → Nat → Bool} {p : P4} (h : ∀ x y, x ≤ p.2.2.1 → y ≤ p.2.2.2 → P x y = Q x y) : cntP P p = cntP Q p := cntB_congr _ fun a b ha hb => h _ _ (by unfold wP at ha; omega) (by unfold hP at hb; omega)
theorem cntP_false {P : Nat → Nat → Bool} {p : P4} (h : ∀ x y, x ≤ p.2.2.1 → y ≤ p.2.2.2 → P x y = false) : cntP P p = 0 := cntB_false _ fun a b ha hb => h _ _ (by unfold wP at ha; omega) (by unfold hP at hb; omega)
theorem area_halves {b : Bool} {r : List Bool} {p : P4} (h : InBlk (b :: r) p) : wP p * hP p = areaP (loP b (nx r) (ny r) p) + areaP (hiP b (nx r) (ny r) p) := by
  have key : ∀ (o : Option P4) (P : Nat → Nat → Bool), (∀ x y, P x y = true) → cntO P o = areaP o := by
    intro o P hP
    cases o with
    | none => rfl
    | some q => exact cntP_true fun x y _ _ => hP x y
  rw [← cntP_true (P := fun _ _ => true) (p := p) (fun _ _ _ _ => rfl), cnt_halves h, key _ _ (fun _ _ => rfl), key _ _ (fun _ _ => rfl)]
/-- keys within the halves -/
theorem key_lo {b : Bool} {r : List Bool} {p q : P4} (h : InBlk (b :: r) p) (e : loP b (nx r) (ny r) p = some q) {x y : Nat} (hx : x ≤ q.2.2.1) (hy : y ≤ q.2.2.2) : keyL (b :: r) x y = keyL r x y := by
  obtain ⟨x1, y1, x2, y2⟩ := p
  obtain ⟨_, _, g3, g4⟩ := lo_in h q e
  unfold loP at e
  cases b with
  | true =>
    show x / 2 ^ nx r % 2 * 2 ^ r.length + keyL r x y = keyL r x y
    rw [Nat.div_eq_of_lt (by omega)]
    simp
  | false =>
    show y / 2 ^ ny r % 2 * 2 ^ r.length + keyL r x y = keyL r x y
    rw [Nat.div_eq_of_lt (by omega)]
    simp
theorem key_hi {b : Bool} {r : List Bool} {p q : P4} (h : InBlk (b :: r) p) (e : hiP b (nx r) (ny r) p = some q) {x y : Nat} (hx : x ≤ q.2.2.1) (hy : y ≤ q.2.2.2) : keyL (b :: r) (shX b (nx r) + x) (shY b (ny r) + y) = 2 ^ r.length + keyL r x y := by
  obtain ⟨_, _, g3, g4⟩ := hi_in h q e
  cases b with
  | true =>
    show (2 ^ nx r + x) / 2 ^ nx r % 2 * 2 ^ r.length + keyL r (2 ^ nx r + x) (0 + y) = 2 ^ r.length + keyL r x y
    have k := keyL_high r 1 0 x y (nx r) (ny r) (Nat.le_refl _) (Nat.le_refl _)
    rw [Nat.one_mul, Nat.zero_mul] at k
    rw [k, Nat.add_div_left _ (two_pos _), Nat.div_eq_of_lt (by omega)]
    simp
  | false =>
    show (2 ^ ny r + y) / 2 ^ ny r % 2 * 2 ^ r.length + keyL r (0 + x) (2 ^ ny r + y) = 2 ^ r.length + keyL r x y
    have k := keyL_high r 0 1 x y (nx r) (ny r) (Nat.le_refl _) (Nat.le_refl _)
    rw [Nat.one_mul, Nat.zero_mul] at k
    rw [k, Nat.add_div_left _ (two_pos _), Nat.div_eq_of_lt (by omega)]
    simp
/-- how many cells of a part have keys that are less -/
def lessO (r : List Bool) (o : Option P4) (k : Nat) : Nat := cntO (fun x y => decide (keyL r x y < k)) o
theorem less_halves {b : Bool} {r : List Bool} {p : P4} (h : InBlk (b :: r) p) {k : Nat} (hk : k < 2 ^ (r.length + 1)) :
    lessO (b :: r) (some p) k = if k / 2 ^ r.length % 2 = 1 then areaP (loP b (nx r) (ny r) p) + lessO r (hiP b (nx r) (ny r) p) (k % 2 ^ r.length) else lessO r (loP b (nx r) (ny r) p) (k % 2 ^ r.length) := by
  show cntP _ p = _
  rw [cnt_halves h]
  rw [Nat.pow_succ] at hk
  have pl := two_pos r.length
  by_cases c : k < 2 ^ r.length
  · rw [Nat.div_eq_of_lt c, if_neg (by decide), Nat.mod_eq_of_lt c]
    have e1 : cntO (fun x y => decide (keyL (b :: r) x y < k)) (loP b (nx r) (ny r) p) = lessO r (loP b (nx r) (ny r) p) k := by
      cases e : loP b (nx r) (ny r) p with
      | none => rfl
      | some q => exact cntP_congr fun x y hx hy => by rw [key_lo h e hx hy]
    have e2 : cntO (fun x y => decide (keyL (b :: r) (shX b (nx r) + x) (shY b (ny r) + y) < k)) (hiP b (nx r) (ny r) p) = 0 := by
      cases e : hiP b (nx r) (ny r) p with
      | none => rfl
      | some q => exact cntP_false fun x y hx hy => by rw [key_hi h e hx hy]; exact decide_eq_false (by omega)
    rw [e1, e2, Nat.add_zero]
  · obtain ⟨k', rfl⟩ : ∃ k', k = 2 ^ r.length + k' := ⟨k - 2 ^ r.length, by omega⟩
    have hk' : k' < 2 ^ r.length := by omega
    rw [Nat.add_div_left _ pl, Nat.div_eq_of_lt hk', if_pos (by decide), Nat.add_mod_left, Nat.mod_eq_of_lt hk']
    have e1 : cntO (fun x y => decide (keyL (b :: r) x y < 2 ^ r.length + k')) (loP b (nx r) (ny r) p) = areaP (loP b (nx r) (ny r) p) := by
      cases e : loP b (nx r) (ny r) p with
      | none => rfl
      | some q => exact cntP_true fun x y hx hy => by rw [key_lo h e hx hy]; exact decide_eq_true (by have := keyL_lt r x y; omega)
    have e2 : cntO (fun x y => decide (keyL (b :: r) (shX b (nx r) + x) (shY b (ny r) + y) < 2 ^ r.length + k')) (hiP b (nx r) (ny r) p) = lessO r (hiP b (nx r) (ny r) p) k' := by
      cases e : hiP b (nx r) (ny r) p with
      | none => rfl
      | some q => exact cntP_congr fun x y hx hy => by rw [key_hi h e hx hy]; exact decide_eq_decide.mpr (by omega)
    rw [e1, e2]
theorem less_le (r : List Bool) (o : Option P4) (k : Nat) : lessO r o k ≤ areaP o := by
  cases o with
  | none => exact Nat.le_refl _
  | some p => exact cntB_le _
theorem less_all {r : List Bool} {o : Option P4} {k : Nat} (h : 2 ^ r.length ≤ k) : lessO r o k = areaP o := by
  cases o with
  | none => rfl
  | some p => exact cntP_true fun x y _ _ => decide_eq_true (by have := keyL_lt r x y; omega)
/-- a key of a part -/
def keyIn (r : List Bool) (o : Option P4) (K : Nat) : Prop := ∃ p x y, o = some p ∧ p.1 ≤ x ∧ x ≤ p.2.2.1 ∧ p.2.1 ≤ y ∧ y ≤ p.2.2.2 ∧ keyL r x y = K
theorem keyIn_lt {r : List Bool} {o : Option P4} {K : Nat} (h : keyIn r o K) : K < 2 ^ r.length := by
  obtain ⟨p, x, y, _, _, _, _, _, e⟩ := h
  rw [← e]
  exact keyL_lt r x y
theorem keyIn_lo {b : Bool} {r : List Bool} {p : P4} (h : InBlk (b :: r) p) {K : Nat} (hk : keyIn r (loP b (nx r) (ny r) p) K) : keyIn (b :: r) (some p) K := by
  obtain ⟨q, x, y, e, g1, g2, g3, g4, ek⟩ := hk
  refine ⟨p, x, y, rfl, ?_⟩
  rw [key_lo h e g2 g4]
  obtain ⟨x1, y1, x2, y2⟩ := p
  unfold loP at e
  cases b with
  | true =>
    rw [if_pos rfl] at e
    split at e
    · cases e
      simp only at g1 g2 g3 g4 ⊢
      exact ⟨by omega, by omega, by omega, by omega, ek⟩
    · cases e
  | false =>
    rw [if_neg (by decide)] at e
    split at e
    · cases e
      simp only at g1 g2 g3 g4 ⊢
      exact ⟨by omega, by omega, by omega, by omega, ek⟩
    · cases e
theorem keyIn_hi {b : Bool} {r : List Bool} {p : P4} (h : InBlk (b :: r) p) {K : Nat} (hk : keyIn r (hiP b (nx r) (ny r) p) K) : keyIn (b :: r) (some p) (2 ^ r.length + K) := by
  obtain ⟨q, x, y, e, g1, g2, g3, g4, ek⟩ := hk
  refine ⟨p, shX b (nx r) + x, shY b (ny r) + y, rfl, ?_⟩
  rw [key_hi h e g2 g4]
  obtain ⟨x1, y1, x2, y2⟩ := p
  unfold hiP at e
  unfold shX shY
  cases b with
  | true =>
    rw [if_pos rfl] at e
    by_cases c : 2 ^ nx r ≤ x2
    · rw [if_pos c] at e
      cases e
      simp only [if_pos] at g1 g2 g3 g4 ⊢
      exact ⟨by omega, by omega, by omega, by omega, by omega⟩
    · rw [if_neg c] at e
      cases e
  | false =>
    rw [if_neg (by decide)] at e
    by_cases c : 2 ^ ny r ≤ y2
    · rw [if_pos c] at e
      cases e
      rw [if_neg (by decide), if_neg (by decide)]
      simp only at g1 g2 g3 g4 ⊢
      exact ⟨by omega, by omega, by omega, by omega, by omega⟩
    · rw [if_neg c] at e
      cases e
/-- less, from the halves -/
theorem less_lo {b : Bool} {r : List Bool} {p : P4} (h : InBlk (b :: r) p) {k : Nat} (hk : k < 2 ^ r.length) : lessO (b :: r) (some p) k = lessO r (loP b (nx r) (ny r) p) k := by
  rw [less_halves h (by rw [Nat.pow_succ]; omega), Nat.div_eq_of_lt hk, if_neg (by decide), Nat.mod_eq_of_lt hk]
theorem less_hi {b : Bool} {r : List Bool} {p : P4} (h : InBlk (b :: r) p) {k : Nat} (hk : k < 2 ^ r.length) : lessO (b :: r) (some p) (2 ^ r.length + k) = areaP (loP b (nx r) (ny r) p) + lessO r (hiP b (nx r) (ny r) p) k := by
  rw [less_halves h (by rw [Nat.pow_succ]; omega), Nat.add_div_left _ (two_pos _), Nat.div_eq_of_lt hk, if_pos (by decide), Nat.add_mod_left, Nat.mod_eq_of_lt hk]
end Lk

set_option linter.all false
namespace Lk
/-! ### blocks of keys -/
theorem xOf_app : ∀ (a b : List Bool) (m r : Nat), r < 2 ^ b.length → xOf (a ++ b) (m * 2 ^ b.length + r) = xOf a m * 2 ^ nx b + xOf b r
  | [], b, m, r, h => by
    show xOf b (m * 2 ^ b.length + r) = 0 * 2 ^ nx b + xOf b r
    rw [xOf_high, Nat.zero_mul, Nat.zero_add]
  | true :: a, b, m, r, h => by
    show (m * 2 ^ b.length + r) / 2 ^ (a ++ b).length % 2 * 2 ^ nx (a ++ b) + xOf (a ++ b) (m * 2 ^ b.length + r) = (m / 2 ^ a.length % 2 * 2 ^ nx a + xOf a m) * 2 ^ nx b + xOf b r
    rw [xOf_app a b m r h, List.length_append, nx_app, Nat.add_comm a.length, Nat.pow_add, ← Nat.div_div_eq_div_mul, Nat.mul_comm m, Nat.mul_add_div (two_pos _), Nat.div_eq_of_lt h, Nat.add_zero, Nat.pow_add, Nat.add_mul, Nat.mul_assoc]
    omega
  | false :: a, b, m, r, h => by
    show xOf (a ++ b) (m * 2 ^ b.length + r) = xOf a m * 2 ^ nx b + xOf b r
    exact xOf_app a b m r h
theorem yOf_app : ∀ (a b : List Bool) (m r : Nat), r < 2 ^ b.length → yOf (a ++ b) (m * 2 ^ b.length + r) = yOf a m * 2 ^ ny b + yOf b r
  | [], b, m, r, h => by
    show yOf b (m * 2 ^ b.length + r) = 0 * 2 ^ ny b + yOf b r
    rw [yOf_high, Nat.zero_mul, Nat.zero_add]
  | false :: a, b, m, r, h => by
    show (m * 2 ^ b.length + r) / 2 ^ (a ++ b).length % 2 * 2 ^ ny (a ++ b) + yOf (a ++ b) (m * 2 ^ b.length + r) = (m / 2 ^ a.length % 2 * 2 ^ ny a + yOf a m) * 2 ^ ny b + yOf b r
    rw [yOf_app a b m r h, List.length_append, ny_app, Nat.add_comm a.length, Nat.pow_add, ← Nat.div_div_eq_div_mul, Nat.mul_comm m, Nat.mul_add_div (two_pos _), Nat.div_eq_of_lt h, Nat.add_zero, Nat.pow_add, Nat.add_mul, Nat.mul_assoc]
    omega
  | true :: a, b, m, r, h => by
    show yOf (a ++ b) (m * 2 ^ b.length + r) = yOf a m * 2 ^ ny b + yOf b r
    exact yOf_app a b m r h
/-- the key is one of the box -/
def inK (l : List Bool) (p : P4) (K : Nat) : Prop := p.1 ≤ xOf l K ∧ xOf l K ≤ p.2.2.1 ∧ p.2.1 ≤ yOf l K ∧ yOf l K ≤ p.2.2.2
instance (l : List Bool) (p : P4) (K : Nat) : Decidable (inK l p K) := by unfold inK; infer_instance
/-- a stretch is whole, or touched -/
def whole (l : List Bool) (p : P4) (t m : Nat) : Prop := ∀ r, r < 2 ^ t → inK l p (m * 2 ^ t + r)
def touched (l : List Bool) (p : P4) (t m : Nat) : Prop := ∃ r, r < 2 ^ t ∧ inK l p (m * 2 ^ t + r)
theorem whole_zero {l : List Bool} {p : P4} {m : Nat} : whole l p 0 m ↔ inK l p m := by
  constructor
  · intro h
    have := h 0 (by decide)
    simpa using this
  · intro h r hr
    have : r = 0 := by simpa using hr
    subst this
    simpa using h
theorem whole_succ {l : List Bool} {p : P4} {t m : Nat} : whole l p (t + 1) m ↔ whole l p t (2 * m) ∧ whole l p t (2 * m + 1) := by
  have pt := two_pos t
  constructor
  · intro h
    constructor
    · intro r hr
      have := h r (by rw [Nat.pow_succ]; omega)
      rw [show 2 * m * 2 ^ t + r = m * 2 ^ (t + 1) + r by rw [Nat.pow_succ, Nat.mul_comm 2 m, Nat.mul_assoc, Nat.mul_comm 2]]
      exact this
    · intro r hr
      have := h (2 ^ t + r) (by rw [Nat.pow_succ]; omega)
      rw [show (2 * m + 1) * 2 ^ t + r = m * 2 ^ (t + 1) + (2 ^ t + r) by rw [Nat.pow_succ, Nat.add_mul, Nat.mul_comm 2 m, Nat.mul_assoc, Nat.mul_comm 2]; omega]
      exact this
  · rintro ⟨h1, h2⟩ r hr
    rw [Nat.pow_succ] at hr
    by_cases c : r < 2 ^ t
    · have := h1 r c
      rw [show 2 * m * 2 ^ t + r = m * 2 ^ (t + 1) + r by rw [Nat.pow_succ, Nat.mul_comm 2 m, Nat.mul_assoc, Nat.mul_comm 2]] at this
      exact this
    · have := h2 (r - 2 ^ t) (by omega)
      rw [show (2 * m + 1) * 2 ^ t + (r - 2 ^ t) = m * 2 ^ (t + 1) + r by rw [Nat.pow_succ, Nat.add_mul, Nat.mul_comm 2 m, Nat.mul_assoc, Nat.mul_comm 2]; omega] at this
      exact this
theorem whole_iff {pre suf : List Bool} {p : P4} {m : Nat} : whole (pre ++ suf) p suf.length m ↔
    (p.1 ≤ xOf pre m * 2 ^ nx suf ∧ xOf pre m * 2 ^ nx suf + 2 ^ nx suf ≤ p.2.2.1 + 1) ∧ (p.2.1 ≤ yOf pre m * 2 ^ ny suf ∧ yOf pre m * 2 ^ ny suf + 2 ^ ny suf ≤ p.2.2.2 + 1) := by
  have px := two_pos (nx suf)
  have py := two_pos (ny suf)
  constructor
  · intro h
    have ex : ∀ a b, a < 2 ^ nx suf → b < 2 ^ ny suf → inK (pre ++ suf) p (m * 2 ^ suf.length + keyL suf a b) ∧ xOf suf (keyL suf a b) = a ∧ yOf suf (keyL suf a b) = b := fun a b ha hb =>
      ⟨h _ (keyL_lt suf a b), by rw [xOf_key, Nat.mod_eq_of_lt ha], by rw [yOf_key, Nat.mod_eq_of_lt hb]⟩
    obtain ⟨h1, e1, e2⟩ := ex 0 0 px py
    obtain ⟨h2, e3, e4⟩ := ex (2 ^ nx suf - 1) (2 ^ ny suf - 1) (by omega) (by omega)
    unfold inK at h1 h2
    rw [xOf_app _ _ _ _ (keyL_lt suf _ _), yOf_app _ _ _ _ (keyL_lt suf _ _)] at h1 h2
    rw [e1, e2] at h1
    rw [e3, e4] at h2
    omega
  · rintro ⟨⟨h1, h2⟩, h3, h4⟩ r hr
    unfold inK
    rw [xOf_app _ _ _ _ hr, yOf_app _ _ _ _ hr]
    have := xOf_lt suf r
    have := yOf_lt suf r
    omega
theorem div_between {a n X : Nat} (hn : 0 < n) : a / n ≤ X ↔ a < X * n + n := by
  constructor
  · intro h
    have h1 := Nat.div_add_mod a n
    have h2 := Nat.mod_lt a hn
    have h3 : n * (a / n) ≤ n * X := Nat.mul_le_mul_left n h
    rw [Nat.mul_comm n X] at h3
    omega
  · intro h
    have h3 : a < (X + 1) * n := by rw [Nat.add_mul, Nat.one_mul]; exact h
    have := Nat.div_lt_of_lt_mul (by rw [Nat.mul_comm] at h3; exact h3)
    omega
theorem touched_iff {pre suf : List Bool} {p : P4} (hx : p.1 ≤ p.2.2.1) (hy : p.2.1 ≤ p.2.2.2) {m : Nat} : touched (pre ++ suf) p suf.length m ↔
    (p.1 / 2 ^ nx suf ≤ xOf pre m ∧ xOf pre m ≤ p.2.2.1 / 2 ^ nx suf) ∧ (p.2.1 / 2 ^ ny suf ≤ yOf pre m ∧ yOf pre m ≤ p.2.2.2 / 2 ^ ny suf) := by
  have px := two_pos (nx suf)
  have py := two_pos (ny suf)
  rw [div_between px, div_between py, Nat.le_div_iff_mul_le px, Nat.le_div_iff_mul_le py]
  constructor
  · rintro ⟨r, hr, h⟩
    unfold inK at h
    rw [xOf_app _ _ _ _ hr, yOf_app _ _ _ _ hr] at h
    have := xOf_lt suf r
    have := yOf_lt suf r
    omega
  · rintro ⟨⟨h1, h2⟩, h3, h4⟩
    have ha : max p.1 (xOf pre m * 2 ^ nx suf) - xOf pre m * 2 ^ nx suf < 2 ^ nx suf := by omega
    have hb : max p.2.1 (yOf pre m * 2 ^ ny suf) - yOf pre m * 2 ^ ny suf < 2 ^ ny suf := by omega
    refine ⟨keyL suf (max p.1 (xOf pre m * 2 ^ nx suf) - xOf pre m * 2 ^ nx suf) (max p.2.1 (yOf pre m * 2 ^ ny suf) - yOf pre m * 2 ^ ny suf), keyL_lt _ _ _, ?_⟩
    unfold inK
    rw [xOf_app _ _ _ _ (keyL_lt suf _ _), yOf_app _ _ _ _ (keyL_lt suf _ _), xOf_key, yOf_key, Nat.mod_eq_of_lt ha, Nat.mod_eq_of_lt hb]
    omega
/-- the count of a stretch within range -/
theorem count_between (a b : Nat) : ∀ n, b ≤ n → (List.range n).countP (fun k => decide (a ≤ k) && decide (k < b)) = b - a
  | 0, h => by
    have : b = 0 := by omega
    subst this
    simp
  | n + 1, h => by
    rw [List.range_succ, List.countP_append, List.countP_singleton]
    by_cases c : b ≤ n
    · rw [count_between a b n c, if_neg (by simp; omega)]
      rfl
    · have hb : b = n + 1 := by omega
      subst hb
      have e : (List.range n).countP (fun k => decide (a ≤ k) && decide (k < n + 1)) = (List.range n).countP (fun k => decide (a ≤ k) && decide (k < n)) := by
        apply List.countP_congr
        intro k hk
        have := List.mem_range.mp hk
        simp
        omega
      rw [e, count_between a n n (Nat.le_refl _)]
      by_cases d : a ≤ n
      · rw [if_pos (by simp; exact d)]
        omega
      · rw [if_neg (by simp; omega)]
        omega
end Lk

set_option Elab.async false
set_option linter.all false
set_option maxRecDepth 100000
set_option maxHeartbeats 4000000
namespace Lk
open PySem PySem.Spec PyProof.Rows L2
/-! ### keys and cells, more -/
theorem keyL_x (l : List Bool) (c x y n : Nat) (h : nx l ≤ n) : keyL l (c * 2 ^ n + x) y = keyL l x y := by
  have := keyL_high l c 0 x y n (ny l) h (Nat.le_refl _)
  rw [Nat.zero_mul, Nat.zero_add] at this
  exact this
theorem keyL_y (l : List Bool) (d x y m : Nat) (h : ny l ≤ m) : keyL l x (d * 2 ^ m + y) = keyL l x y := by
  have := keyL_high l 0 d x y (nx l) m (Nat.le_refl _) h
  rw [Nat.zero_mul, Nat.zero_add] at this
  exact this
theorem key_mod (k n : Nat) (h : k < 2 ^ (n + 1)) : k / 2 ^ n % 2 * 2 ^ n + k % 2 ^ n = k := by
  rw [← mod_succ, Nat.mod_eq_of_lt h]
theorem xOf_mod (l : List Bool) (k : Nat) : xOf l (k % 2 ^ l.length) = xOf l k := by
  have := xOf_high l (k / 2 ^ l.length) (k % 2 ^ l.length)
  rw [Nat.mul_comm, Nat.div_add_mod] at this
  exact this.symm
theorem yOf_mod (l : List Bool) (k : Nat) : yOf l (k % 2 ^ l.length) = yOf l k := by
  have := yOf_high l (k / 2 ^ l.length) (k % 2 ^ l.length)
  rw [Nat.mul_comm, Nat.div_add_mod] at this
  exact this.symm
theorem keyL_cell : ∀ (l : List Bool) (k : Nat), keyL l (xOf l k) (yOf l k) = k % 2 ^ l.length
  | [], k => by
    show 0 = k % 1
    omega
  | true :: r, k => by
    show (k / 2 ^ r.length % 2 * 2 ^ nx r + xOf r k) / 2 ^ nx r % 2 * 2 ^ r.length + keyL r (k / 2 ^ r.length % 2 * 2 ^ nx r + xOf r k) (yOf r k) = k % 2 ^ (r.length + 1)
    rw [lead_bit _ (Nat.mod_lt _ (by decide)) (xOf_lt r k), keyL_x r _ _ _ _ (Nat.le_refl _), keyL_cell r k, ← mod_succ]
  | false :: r, k => by
    show (k / 2 ^ r.length % 2 * 2 ^ ny r + yOf r k) / 2 ^ ny r % 2 * 2 ^ r.length + keyL r (xOf r k) (k / 2 ^ r.length % 2 * 2 ^ ny r + yOf r k) = k % 2 ^ (r.length + 1)
    rw [lead_bit _ (Nat.mod_lt _ (by decide)) (yOf_lt r k), keyL_y r _ _ _ _ (Nat.le_refl _), keyL_cell r k, ← mod_succ]
theorem nx_drop_lt {l : List Bool} {j : Nat} (h : j < l.length) (e : l[j] = true) : nx (l.drop (j + 1)) < nx l := by
  have h1 := nx_drop l j h
  rw [if_pos e] at h1
  have h2 : nx l = nx (l.take j) + nx (l.drop j) := by rw [← nx_app, List.take_append_drop]
  omega
theorem ny_drop_lt {l : List Bool} {j : Nat} (h : j < l.length) (e : l[j] = false) : ny (l.drop (j + 1)) < ny l := by
  have h1 := ny_drop l j h
  rw [e, if_neg (by decide)] at h1
  have h2 : ny l = ny (l.take j) + ny (l.drop j) := by rw [← ny_app, List.take_append_drop]
  omega
theorem digit_x : ∀ (l : List Bool) (k j : Nat) (h : j < l.length), l[j] = true → xOf l k / 2 ^ nx (l.drop (j + 1)) % 2 = k / 2 ^ (l.length - 1 - j) % 2
  | true :: r, k, 0, _, _ => by
    show (k / 2 ^ r.length % 2 * 2 ^ nx r + xOf r k) / 2 ^ nx r % 2 = k / 2 ^ r.length % 2
    exact lead_bit _ (Nat.mod_lt _ (by decide)) (xOf_lt r k)
  | false :: r, k, 0, _, e => by cases e
  | true :: r, k, j + 1, h, e => by
    have hj : j < r.length := by simpa using h
    have e' : r[j] = true := e
    show (k / 2 ^ r.length % 2 * 2 ^ nx r + xOf r k) / 2 ^ nx (r.drop (j + 1)) % 2 = k / 2 ^ (r.length + 1 - 1 - (j + 1)) % 2
    rw [digit_high (nx_drop_lt hj e'), digit_x r k j hj e', show r.length + 1 - 1 - (j + 1) = r.length - 1 - j by omega]
  | false :: r, k, j + 1, h, e => by
    have hj : j < r.length := by simpa using h
    have e' : r[j] = true := e
    show xOf r k / 2 ^ nx (r.drop (j + 1)) % 2 = k / 2 ^ (r.length + 1 - 1 - (j + 1)) % 2
    rw [digit_x r k j hj e', show r.length + 1 - 1 - (j + 1) = r.length - 1 - j by omega]
theorem digit_y : ∀ (l : List Bool) (k j : Nat) (h : j < l.length), l[j] = false → yOf l k / 2 ^ ny (l.drop (j + 1)) % 2 = k / 2 ^ (l.length - 1 - j) % 2
  | false :: r, k, 0, _, _ => by
    show (k / 2 ^ r.length % 2 * 2 ^ ny r + yOf r k) / 2 ^ ny r % 2 = k / 2 ^ r.length % 2
    exact lead_bit _ (Nat.mod_lt _ (by decide)) (yOf_lt r k)
  | true :: r, k, 0, _, e => by cases e
  | false :: r, k, j + 1, h, e => by
    have hj : j < r.length := by simpa using h
    have e' : r[j] = false := e
    show (k / 2 ^ r.length % 2 * 2 ^ ny r + yOf r k) / 2 ^ ny (r.drop (j + 1)) % 2 = k / 2 ^ (r.length + 1 - 1 - (j + 1)) % 2
    rw [digit_high (ny_drop_lt hj e'), digit_y r k j hj e', show r.length + 1 - 1 - (j + 1) = r.length - 1 - j by omega]
  | true :: r, k, j + 1, h, e => by
    have hj : j < r.length := by simpa using h
    have e' : r[j] = false := e
    show yOf r k / 2 ^ ny (r.drop (j + 1)) % 2 = k / 2 ^ (r.length + 1 - 1 - (j + 1)) % 2
    rw [digit_y r k j hj e', show r.length + 1 - 1 - (j + 1) = r.length - 1 - j by omega]
/-! ### a sorted list of all numbers of a range -/
theorem inc_len : ∀ (ns : List Int) (a b : Int), ns.Pairwise (· < ·) → (∀ n ∈ ns, a ≤ n ∧ n < b) → (ns.length : Int) ≤ max 0 (b - a)
  | [], a, b, _, _ => by simp; omega
  | n :: r, a, b, hp, hr => by
    obtain ⟨h1, h2⟩ := List.pairwise_cons.mp hp
    have hn := hr n List.mem_cons_self
    have ih := inc_len r (n + 1) b h2 fun m hm => ⟨h1 m hm, (hr m (List.mem_cons_of_mem _ hm)).2⟩
    rw [List.length_cons]
    omega
theorem inc_all : ∀ (ns : List Int) (a : Int) (k : Nat), ns.Pairwise (· < ·) → (∀ n ∈ ns, a ≤ n ∧ n < a + k) → ns.length = k → ns = (List.range k).map fun i => a + ((i : Nat) : Int)
  | [], a, k, _, _, h => by
    subst h
    rfl
  | n :: r, a, k, hp, hr, h => by
    obtain ⟨h1, h2⟩ := List.pairwise_cons.mp hp
    have hn := hr n List.mem_cons_self
    have hr2 : ∀ m ∈ r, n + 1 ≤ m ∧ m < a + k := fun m hm => ⟨h1 m hm, (hr m (List.mem_cons_of_mem _ hm)).2⟩
    have il := inc_len r (n + 1) (a + k) h2 hr2
    rw [List.length_cons] at h
    obtain ⟨k, rfl⟩ : ∃ k', k = k' + 1 := ⟨r.length, h.symm⟩
    have en : n = a := by omega
    subst en
    rw [List.range_succ_eq_map, List.map_cons, List.map_map, inc_all r (n + 1) k h2 (fun m hm => ⟨(hr2 m hm).1, by have := (hr2 m hm).2; omega⟩) (by omega)]
    congr 1
    · omega
    · apply List.map_congr_left
      intro i _
      show n + 1 + ((i : Nat) : Int) = n + ((i + 1 : Nat) : Int)
      omega
theorem sorted_all {ns ms : List Int} {k : Nat} (hp : ns.Perm ms) (hs : ns.Pairwise (· ≤ ·)) (hd : ms.Nodup) (hb : ∀ n ∈ ms, 0 ≤ n ∧ n < (k : Int)) (hl : ms.length = k) : ns = (List.range k).map fun i => ((i : Nat) : Int) := by
  have nd : ns.Nodup := hp.nodup_iff.mpr hd
  have lt : ns.Pairwise (· < ·) := (hs.and nd).imp fun {a b} h => by have h1 := h.1; have h2 : a ≠ b := h.2; omega
  have := inc_all ns 0 k lt (fun n hn => by have := hb n (hp.mem_iff.mp hn); omega) (hp.length_eq.trans hl)
  rw [this]
  apply List.map_congr_left
  intro i _
  omega
/-- the keys of the cells, column after column -/
def keyAt (l : List Bool) (c : Nat) : Int := ((keyL l (c / 2 ^ ny l) (c % 2 ^ ny l) : Nat) : Int)
theorem keyAt_inj {l : List Bool} {c d : Nat} (hc : c < 2 ^ nx l * 2 ^ ny l) (hd : d < 2 ^ nx l * 2 ^ ny l) (h : keyAt l c = keyAt l d) : c = d := by
  have e : keyL l (c / 2 ^ ny l) (c % 2 ^ ny l) = keyL l (d / 2 ^ ny l) (d % 2 ^ ny l) := Int.ofNat.inj h
  have ex := congrArg (xOf l) e
  have ey := congrArg (yOf l) e
  rw [xOf_key, xOf_key] at ex
  rw [yOf_key, yOf_key] at ey
  have px := two_pos (ny l)
  have bc : c / 2 ^ ny l < 2 ^ nx l := Nat.div_lt_of_lt_mul (by rw [Nat.mul_comm]; exact hc)
  have bd : d / 2 ^ ny l < 2 ^ nx l := Nat.div_lt_of_lt_mul (by rw [Nat.mul_comm]; exact hd)
  rw [Nat.mod_eq_of_lt bc, Nat.mod_eq_of_lt bd] at ex
  rw [Nat.mod_mod, Nat.mod_mod] at ey
  rw [← Nat.div_add_mod c (2 ^ ny l), ← Nat.div_add_mod d (2 ^ ny l), ex, ey]
theorem keys_nodup (l : List Bool) : ((List.range (2 ^ nx l * 2 ^ ny l)).map (keyAt l)).Nodup := by
  refine List.pairwise_map.mpr ?_
  refine List.Pairwise.imp_of_mem (R := (· ≠ ·)) (fun {a b} ha hb hne h => hne (keyAt_inj (List.mem_range.mp ha) (List.mem_range.mp hb) h)) List.nodup_range
theorem keys_bound (l : List Bool) : ∀ n ∈ (List.range (2 ^ nx l * 2 ^ ny l)).map (keyAt l), 0 ≤ n ∧ n < ((2 ^ nx l * 2 ^ ny l : Nat) : Int) := by
  intro n hn
  obtain ⟨c, _, rfl⟩ := List.mem_map.mp hn
  have := keyL_lt l (c / 2 ^ ny l) (c % 2 ^ ny l)
  rw [← Nat.pow_add, nxy]
  unfold keyAt
  omega
theorem keys_step (l : List Bool) (x : Nat) : (List.range (x * 2 ^ ny l)).map (keyAt l) ++ (List.range (2 ^ ny l)).map (fun y => ((keyL l x y : Nat) : Int)) = (List.range ((x + 1) * 2 ^ ny l)).map (keyAt l) := by
  rw [Nat.succ_mul, List.range_add, List.map_append, List.map_map]
  congr 1
  apply List.map_congr_left
  intro y hy
  have hy := List.mem_range.mp hy
  show _ = ((keyL l ((x * 2 ^ ny l + y) / 2 ^ ny l) ((x * 2 ^ ny l + y) % 2 ^ ny l) : Nat) : Int)
  rw [Nat.mul_comm x, Nat.mul_add_div (two_pos _), Nat.div_eq_of_lt hy, Nat.mul_add_mod, Nat.mod_eq_of_lt hy, Nat.add_zero]
/-! ### a word backwards -/
theorem wS_rev (l : List Bool) : (⟨(wS l).cps.reverse⟩ : Str) = wS l.reverse := by
  show (⟨(l.map sg).toArray.reverse⟩ : Str) = ⟨(l.reverse.map sg).toArray⟩
  rw [List.map_reverse, List.reverse_toArray]
theorem good_rev {l : List Bool} (g : GoodW l) : GoodW l.reverse := ⟨fun h => g.1 (List.reverse_eq_nil_iff.mp h), by unfold nx; rw [List.count_reverse]; exact g.2.1, by unfold ny; rw [List.count_reverse]; exact g.2.2⟩
theorem rev_at (l : List Bool) {i : Nat} (h : i < l.length) : (wS l.reverse).cps[i]? = some (sg (l[l.length - 1 - i]'(by omega))) := by
  rw [wS_at _ _ (by rw [List.length_reverse]; exact h), List.getElem_reverse]
theorem wS_dec (a b : List Bool) : decide (V.str (wS a) = V.str (wS b)) = decide (a = b) := by
  by_cases h : a = b
  · rw [decide_eq_true h, h]
    exact decide_eq_true rfl
  · rw [decide_eq_false h]
    exact decide_eq_false fun e => h (wS_inj (V.str.inj e))
/-! ### heaps, more -/
@[elab_as_elim] theorem to_any2 {p : Hp → Prop} {H H' : Hp} (q : Hp → Prop) (e : Same H H') (h : q H') (k : ∀ H2, Same H H2 → q H2 → p H2) : p H' := k H' e h
theorem But.mut {r D : Addr} {H H' : Hp} {o : HO} (b : But r H H') (hD : H D = none) : But r H (L2.upd H' D o) := fun c x nc hc => by
  rw [L2.upd_ne (ne_of_none hc hD)]
  exact b c x nc hc
theorem Reel.mut {r D : Addr} {H : Hp} {n : Nat} {o : HO} (R : Reel H r n) (h : D ≠ r) : Reel (upd H D o) r n := by
  obtain ⟨a, b, c, h1, h2⟩ := R
  exact ⟨a, b, c, by rw [upd_ne h.symm]; exact h1, h2⟩
def CellsAt (r : Addr) (l : List Bool) (H : Hp) (ts : List Addr) : Prop := ∀ t ∈ ts, t ≠ r ∧ ∃ X Y : Nat, X < 2 ^ nx l ∧ Y < 2 ^ ny l ∧ H t = some (.tup [.int X, .int Y])
theorem CellsAt.but {r : Addr} {l : List Bool} {H H' : Hp} {ts : List Addr} (b : But r H H') (h : CellsAt r l H ts) : CellsAt r l H' ts := fun t ht => by
  obtain ⟨h1, X, Y, hX, hY, k⟩ := h t ht
  exact ⟨h1, X, Y, hX, hY, b _ _ h1 k⟩
theorem CellsAt.mut {r D : Addr} {l : List Bool} {H : Hp} {ts : List Addr} {o : HO} (h : CellsAt r l H ts) (n : ∀ t ∈ ts, t ≠ D) : CellsAt r l (upd H D o) ts := fun t ht => by
  obtain ⟨h1, X, Y, hX, hY, k⟩ := h t ht
  exact ⟨h1, X, Y, hX, hY, by rw [upd_ne (n t ht)]; exact k⟩
theorem CellsAt.nil {r : Addr} {l : List Bool} {H : Hp} : CellsAt r l H [] := fun t ht => absurd ht List.not_mem_nil
theorem CellsAt.cons {r t : Addr} {l : List Bool} {H : Hp} {ts : List Addr} {X Y : Nat} (n : t ≠ r) (hX : X < 2 ^ nx l) (hY : Y < 2 ^ ny l) (k : H t = some (.tup [.int X, .int Y])) (h : CellsAt r l H ts) : CellsAt r l H (t :: ts) := fun u hu => by
  rcases List.mem_cons.mp hu with e | e
  · rw [e]
    exact ⟨n, X, Y, hX, hY, k⟩
  · exact h u e
theorem CellsAt.app {r : Addr} {l : List Bool} {H : Hp} {ts us : List Addr} (h : CellsAt r l H ts) (h' : CellsAt r l H us) : CellsAt r l H (ts ++ us) := fun u hu => by
  rcases List.mem_append.mp hu with e | e
  · exact h u e
  · exact h' u e
/-! ### built-in types and own classes -/
theorem sub_bt {K : PySem.W.Frag} {T : String} {C : Addr} (h : T ∈ ["NoneType", "str", "int", "list", "tuple"]) : PySem.W.subIn K (.type T) (.ref C) = some false := by
  have key : ∀ T ∈ ["NoneType", "str", "int", "list", "tuple"], ∃ l : List Value, fastBuiltinMro T = some l ∧ ∀ v ∈ l, ∃ t, v = Value.type t := by
    intro T hT
    simp only [List.mem_cons, List.not_mem_nil, or_false] at hT
    rcases hT with rfl | rfl | rfl | rfl | rfl
    · exact ⟨[.type "NoneType", .type "object"], by decide +kernel, by simp⟩
    · exact ⟨[.type "str", .type "object"], by decide +kernel, by simp⟩
    · exact ⟨[.type "int", .type "object"], by decide +kernel, by simp⟩
    · exact ⟨[.type "list", .type "object"], by decide +kernel, by simp⟩
    · exact ⟨[.type "tuple", .type "object"], by decide +kernel, by simp⟩
  obtain ⟨l, e, hl⟩ := key T h
  show (fastBuiltinMro T).map (·.contains (.ref C)) = some false
  rw [e]
  show some (l.contains (.ref C)) = some false
  congr 1
  rw [Bool.eq_false_iff]
  intro hc
  rw [List.contains_iff_exists_mem_beq] at hc
  obtain ⟨v, hv, e⟩ := hc
  obtain ⟨t, rfl⟩ := hl v hv
  have := eq_of_beq e
  cases this
theorem nf_bt {K : PySem.W.Frag} {T : String} {C : Addr} (h : T ∈ ["NoneType", "str", "int", "list", "tuple"]) : PySem.W.notFirst K C (.type T) = true := by
  unfold PySem.W.notFirst
  rw [sub_bt h]
  simp
theorem kit_bt {K : PySem.W.Frag} {T : String} {C : Addr} (h : T ∈ ["NoneType", "str", "int", "list", "tuple"]) (c : Cls K C) (tc : PySem.W.typeIn K (.ref C) = some (.type "type")) : PySem.W.kitOne K (.type T) (.ref C) = some false := by
  obtain ⟨cd, hc, _⟩ := PySem.W.any_some c.hd
  unfold PySem.W.kitOne
  rw [if_neg (by simp)]
  show (if ((PySem.W.clsIn K C).isSome && PySem.W.typeIn K (.ref C) == some (.type "type")) = true then PySem.W.subIn K (.type T) (.ref C) else none) = some false
  rw [if_pos (by rw [hc, tc]; simp), sub_bt h]
/-! ### lists of numbers as data -/
theorem dp_ints {K : PySem.W.Frag} {H : Hp} : ∀ ns : List Int, DpAll K H (ns.map V.int) (ns.map PyData.int)
  | [] => .nil
  | n :: r => .cons (.int n) (dp_ints r)
theorem shaped_ints (ns : List Int) (h : ∀ n ∈ ns, n.natAbs < 2 ^ 1000) : SeqAt.shaped (.list (ns.map PyData.int)) = true := shaped_list fun d hd => by
  obtain ⟨n, hn, rfl⟩ := List.mem_map.mp hd
  exact h n hn
theorem rgV_nat (N : Nat) : rgV 0 (N : Int) = ((List.range N).map fun i => ((i : Nat) : Int)).map V.int := by
  unfold rgV
  rw [List.map_map, show ((N : Int) - 0).toNat = N by omega]
  apply List.map_congr_left
  intro i _
  show V.int (0 + ((i : Nat) : Int)) = V.int ((i : Nat) : Int)
  rw [Int.zero_add]
end Lk

set_option Elab.async false
set_option linter.all false
set_option maxRecDepth 100000
set_option maxHeartbeats 4000000
namespace Lk
open PySem PySem.Spec PyProof.Rows L2
/-! ### counting multiples -/
def cmI (d : Nat) (lo hi : Int) : Int := if hi < lo then 0 else hi / 2 ^ d - (lo - 1) / 2 ^ d
def bordI (d : Nat) (lo hi : Int) : Int := cmI d (lo + 1) hi - cmI (d + 1) (lo + 1) hi
def spanI (d : Nat) (lo hi : Int) : Int := cmI d lo (hi - 2 ^ d + 1)
theorem step_div (M : Int) (hM : 0 < M) (z : Int) : z / M - (z - 1) / M = if z % M = 0 then 1 else 0 := by
  have h1 := Int.mul_ediv_add_emod z M
  have h2 := Int.emod_nonneg z (Int.ne_of_gt hM)
  have h3 := Int.emod_lt_of_pos z hM
  by_cases h : z % M = 0
  · rw [if_pos h]
    have := ((Int.ediv_emod_unique (a := z - 1) (r := M - 1) (q := z / M - 1) hM).mpr ⟨by rw [Int.mul_sub, Int.mul_one]; omega, by omega, by omega⟩).1
    rw [this]
    omega
  · rw [if_neg h]
    have := ((Int.ediv_emod_unique (a := z - 1) (r := z % M - 1) (q := z / M) hM).mpr ⟨by omega, by omega, by omega⟩).1
    rw [this]
    omega
def mlt (d lo n : Nat) : Nat := (List.range n).countP fun k => decide ((lo + k) % 2 ^ d = 0)
theorem mlt_eq (d lo : Nat) : ∀ n : Nat, ((mlt d lo n : Nat) : Int) = ((lo : Int) + (n : Int) - 1) / 2 ^ d - ((lo : Int) - 1) / 2 ^ d
  | 0 => by
    show (0 : Int) = _
    rw [show (lo : Int) + ((0 : Nat) : Int) - 1 = (lo : Int) - 1 by omega, Int.sub_self]
  | n + 1 => by
    have ih := mlt_eq d lo n
    have pos : (0 : Int) < 2 ^ d := Int.pow_pos (by decide)
    have st := step_div (2 ^ d) pos ((lo : Int) + (n : Int))
    have em : ((lo : Int) + (n : Int)) % 2 ^ d = (((lo + n) % 2 ^ d : Nat) : Int) := by
      rw [Int.natCast_emod, Int.natCast_add, Int.natCast_pow]
      rfl
    unfold mlt at ih ⊢
    rw [List.range_succ, List.countP_append, Int.natCast_add, ih, List.countP_singleton]
    rw [show (lo : Int) + ((n + 1 : Nat) : Int) - 1 = (lo : Int) + (n : Int) by omega]
    by_cases h : (lo + n) % 2 ^ d = 0
    · rw [if_pos (by rw [em, h]; rfl)] at st
      rw [if_pos (decide_eq_true h)]
      omega
    · rw [if_neg (by rw [em]; omega)] at st
      rw [if_neg (by rw [decide_eq_false h]; decide)]
      omega
theorem cm_mlt (d lo n : Nat) : cmI d lo ((lo : Int) + (n : Int) - 1) = ((mlt d lo n : Nat) : Int) := by
  unfold cmI
  by_cases h : (lo : Int) + (n : Int) - 1 < (lo : Int)
  · rw [if_pos h]
    have : n = 0 := by omega
    subst this
    rfl
  · rw [if_neg h, mlt_eq]
/-- odd multiples of 2 ^ d -/
theorem odd_iff (z d : Nat) : z % 2 ^ (d + 1) = 2 ^ d ↔ z % 2 ^ d = 0 ∧ z / 2 ^ d % 2 = 1 := by
  rw [mod_succ]
  have h1 := Nat.mod_lt z (two_pos d)
  have h2 := Nat.mod_lt (z / 2 ^ d) (show 0 < 2 by decide)
  have p := two_pos d
  rcases (show z / 2 ^ d % 2 = 0 ∨ z / 2 ^ d % 2 = 1 by omega) with e | e
  · rw [e, Nat.zero_mul, Nat.zero_add]
    omega
  · rw [e, Nat.one_mul]
    omega
theorem even_iff (z d : Nat) : z % 2 ^ (d + 1) = 0 ↔ z % 2 ^ d = 0 ∧ z / 2 ^ d % 2 = 0 := by
  rw [mod_succ]
  have h1 := Nat.mod_lt z (two_pos d)
  have h2 := Nat.mod_lt (z / 2 ^ d) (show 0 < 2 by decide)
  have p := two_pos d
  rcases (show z / 2 ^ d % 2 = 0 ∨ z / 2 ^ d % 2 = 1 by omega) with e | e
  · rw [e, Nat.zero_mul, Nat.zero_add]
    omega
  · rw [e, Nat.one_mul]
    omega
def oddm (d lo n : Nat) : Nat := (List.range n).countP fun k => decide ((lo + k) % 2 ^ (d + 1) = 2 ^ d)
theorem oddm_eq (d lo : Nat) : ∀ n, oddm d lo n + mlt (d + 1) lo n = mlt d lo n
  | 0 => rfl
  | n + 1 => by
    have ih := oddm_eq d lo n
    unfold oddm mlt at ih ⊢
    rw [List.range_succ, List.countP_append, List.countP_append, List.countP_append, ← ih, List.countP_singleton, List.countP_singleton, List.countP_singleton]
    have h1 := odd_iff (lo + n) d
    have h2 := even_iff (lo + n) d
    have h3 := Nat.mod_lt ((lo + n) / 2 ^ d) (show 0 < 2 by decide)
    by_cases a : (lo + n) % 2 ^ d = 0
    · by_cases b : (lo + n) / 2 ^ d % 2 = 1
      · have c1 := h1.mpr ⟨a, b⟩
        have c2 : ¬ (lo + n) % 2 ^ (d + 1) = 0 := fun z => by have := (h2.mp z).2; omega
        rw [decide_eq_true a, decide_eq_true c1, decide_eq_false c2]
        simp
        omega
      · have c1 : ¬ (lo + n) % 2 ^ (d + 1) = 2 ^ d := fun z => b (h1.mp z).2
        have c2 := h2.mpr ⟨a, by omega⟩
        rw [decide_eq_true a, decide_eq_false c1, decide_eq_true c2]
        simp
        omega
    · have c1 : ¬ (lo + n) % 2 ^ (d + 1) = 2 ^ d := fun z => a (h1.mp z).1
      have c2 : ¬ (lo + n) % 2 ^ (d + 1) = 0 := fun z => a (h2.mp z).1
      rw [decide_eq_false a, decide_eq_false c1, decide_eq_false c2]
      simp
theorem bord_eq {x1 x2 : Nat} (d : Nat) (h : x1 ≤ x2) : bordI d x1 x2 = ((oddm d (x1 + 1) (x2 - x1) : Nat) : Int) := by
  unfold bordI
  have e1 := cm_mlt d (x1 + 1) (x2 - x1)
  have e2 := cm_mlt (d + 1) (x1 + 1) (x2 - x1)
  have e3 : (((x1 + 1 : Nat) : Int)) + ((x2 - x1 : Nat) : Int) - 1 = (x2 : Int) := by omega
  rw [e3] at e1 e2
  have e4 : ((x1 + 1 : Nat) : Int) = (x1 : Int) + 1 := rfl
  rw [e4] at e1 e2
  rw [e1, e2]
  have := oddm_eq d (x1 + 1) (x2 - x1)
  omega
/-- how many y of y1 .. y2 are multiples of 2 ^ d with y + 2 ^ d ≤ y2 + 1 -/
def full (d y1 y2 : Nat) : Nat := (List.range (y2 + 1 - y1)).countP fun k => decide ((y1 + k) % 2 ^ d = 0) && decide (y1 + k + 2 ^ d ≤ y2 + 1)
theorem countP_none {p : Nat → Bool} : ∀ l : List Nat, (∀ x ∈ l, p x = false) → l.countP p = 0 := fun l h => by
  rw [List.countP_eq_zero]
  intro x hx
  rw [h x hx]
  decide
theorem span_eq {y1 y2 : Nat} (d : Nat) (h : y1 ≤ y2) : spanI d y1 y2 = ((full d y1 y2 : Nat) : Int) := by
  unfold spanI full
  have p := two_pos d
  have cp : ((2 : Int) ^ d) = ((2 ^ d : Nat) : Int) := by rw [Int.natCast_pow]; rfl
  by_cases hc : y1 + 2 ^ d ≤ y2 + 1
  · obtain ⟨n, hn⟩ : ∃ n, n = y2 + 1 - 2 ^ d + 1 - y1 := ⟨_, rfl⟩
    obtain ⟨m, hm⟩ : ∃ m, y2 + 1 - y1 = n + m := ⟨y2 + 1 - y1 - n, by omega⟩
    have e1 := cm_mlt d y1 n
    rw [show (y1 : Int) + (n : Int) - 1 = (y2 : Int) - 2 ^ d + 1 by rw [cp]; omega] at e1
    rw [e1, hm, List.range_add, List.countP_append, List.countP_map]
    rw [countP_none (List.range m) (p := _ ∘ _) (fun x hx => by
      show (decide ((y1 + (n + x)) % 2 ^ d = 0) && decide (y1 + (n + x) + 2 ^ d ≤ y2 + 1)) = false
      rw [decide_eq_false (p := y1 + (n + x) + 2 ^ d ≤ y2 + 1) (by omega), Bool.and_false])]
    unfold mlt
    rw [Nat.add_zero]
    congr 1
    apply List.countP_congr
    intro x hx
    have := List.mem_range.mp hx
    rw [decide_eq_true (p := y1 + x + 2 ^ d ≤ y2 + 1) (by omega), Bool.and_true]
  · have : cmI d y1 ((y2 : Int) - 2 ^ d + 1) = 0 := by
      unfold cmI
      rw [if_pos (by rw [cp]; omega)]
    rw [this, countP_none]
    · rfl
    · intro x _
      rw [decide_eq_false (p := y1 + x + 2 ^ d ≤ y2 + 1) (by omega), Bool.and_false]
end Lk

set_option Elab.async false
set_option linter.all false
set_option maxRecDepth 100000
set_option maxHeartbeats 4000000
namespace Lk
open PySem PySem.Spec PyProof.Rows L2
/-! ### a key and the one before it -/
theorem keyL_zero : ∀ l : List Bool, keyL l 0 0 = 0
  | [] => rfl
  | true :: r => by
    show 0 / 2 ^ nx r % 2 * 2 ^ r.length + keyL r 0 0 = 0
    rw [keyL_zero r, Nat.zero_div, Nat.zero_mod, Nat.zero_mul]
  | false :: r => by
    show 0 / 2 ^ ny r % 2 * 2 ^ r.length + keyL r 0 0 = 0
    rw [keyL_zero r, Nat.zero_div, Nat.zero_mod, Nat.zero_mul]
theorem pow_split (n : Nat) : 2 ^ (n + 1) - 1 = 1 * 2 ^ n + (2 ^ n - 1) := by
  have := two_pos n
  rw [Nat.pow_succ]
  omega
theorem keyL_ones : ∀ l : List Bool, keyL l (2 ^ nx l - 1) (2 ^ ny l - 1) + 1 = 2 ^ l.length
  | [] => rfl
  | true :: r => by
    have p := two_pos (nx r)
    have ih := keyL_ones r
    rw [nx_t, ny_t, pow_split]
    show (1 * 2 ^ nx r + (2 ^ nx r - 1)) / 2 ^ nx r % 2 * 2 ^ r.length + keyL r (1 * 2 ^ nx r + (2 ^ nx r - 1)) (2 ^ ny r - 1) + 1 = 2 ^ (r.length + 1)
    rw [lead_bit _ (by decide) (by omega), keyL_x r _ _ _ _ (Nat.le_refl _), Nat.pow_succ]
    omega
  | false :: r => by
    have p := two_pos (ny r)
    have ih := keyL_ones r
    rw [nx_f, ny_f, pow_split]
    show (1 * 2 ^ ny r + (2 ^ ny r - 1)) / 2 ^ ny r % 2 * 2 ^ r.length + keyL r (2 ^ nx r - 1) (1 * 2 ^ ny r + (2 ^ ny r - 1)) + 1 = 2 ^ (r.length + 1)
    rw [lead_bit _ (by decide) (by omega), keyL_y r _ _ _ _ (Nat.le_refl _), Nat.pow_succ]
    omega
theorem xOf_zero : ∀ l : List Bool, xOf l 0 = 0
  | [] => rfl
  | true :: r => by
    show 0 / 2 ^ r.length % 2 * 2 ^ nx r + xOf r 0 = 0
    rw [xOf_zero r, Nat.zero_div, Nat.zero_mod, Nat.zero_mul]
  | false :: r => xOf_zero r
theorem yOf_zero : ∀ l : List Bool, yOf l 0 = 0
  | [] => rfl
  | true :: r => yOf_zero r
  | false :: r => by
    show 0 / 2 ^ r.length % 2 * 2 ^ ny r + yOf r 0 = 0
    rw [yOf_zero r, Nat.zero_div, Nat.zero_mod, Nat.zero_mul]
/-- an odd multiple of 2 ^ i and the number before it -/
theorem odd_pre {x i : Nat} (h : x % 2 ^ (i + 1) = 2 ^ i) : 1 ≤ x ∧ x % 2 ^ i = 0 ∧ x / 2 ^ i % 2 = 1 ∧ (x - 1) / 2 ^ (i + 1) = x / 2 ^ (i + 1) ∧ (x - 1) / 2 ^ i % 2 = 0 ∧ (x - 1) % 2 ^ i = 2 ^ i - 1 := by
  have p := two_pos i
  obtain ⟨a, b⟩ := (odd_iff x i).mp h
  have e1 := Nat.div_add_mod x (2 ^ (i + 1))
  rw [h] at e1
  obtain ⟨q, hq⟩ : ∃ q, q = x / 2 ^ (i + 1) := ⟨_, rfl⟩
  rw [← hq] at e1
  have e2 : x - 1 = (2 * q) * 2 ^ i + (2 ^ i - 1) := by
    rw [← e1, Nat.pow_succ, Nat.mul_comm (2 ^ i) 2, Nat.mul_assoc, Nat.mul_comm (2 ^ i) q, ← Nat.mul_assoc]
    omega
  have e3 : x - 1 = 2 ^ (i + 1) * q + (2 ^ i - 1) := by omega
  have lt1 : 2 ^ i - 1 < 2 ^ i := by omega
  have lt2 : 2 ^ i - 1 < 2 ^ (i + 1) := by rw [Nat.pow_succ]; omega
  refine ⟨by omega, a, b, ?_, ?_, ?_⟩
  · rw [← hq, e3, Nat.mul_add_div (two_pos _), Nat.div_eq_of_lt lt2, Nat.add_zero]
  · rw [e2, Nat.mul_comm _ (2 ^ i), Nat.mul_add_div p, Nat.div_eq_of_lt lt1, Nat.add_zero, Nat.mul_mod_right]
  · rw [e2, Nat.mul_comm _ (2 ^ i), Nat.mul_add_mod, Nat.mod_eq_of_lt lt1]
theorem mul_post {y j : Nat} (h : y % 2 ^ j = 0) : (y + 2 ^ j - 1) / 2 ^ j = y / 2 ^ j ∧ (y + 2 ^ j - 1) % 2 ^ j = 2 ^ j - 1 := by
  have p := two_pos j
  have e1 := Nat.div_add_mod y (2 ^ j)
  rw [h, Nat.add_zero] at e1
  obtain ⟨q, hq⟩ : ∃ q, q = y / 2 ^ j := ⟨_, rfl⟩
  rw [← hq] at e1 ⊢
  have e2 : y + 2 ^ j - 1 = 2 ^ j * q + (2 ^ j - 1) := by omega
  have lt1 : 2 ^ j - 1 < 2 ^ j := by omega
  rw [e2]
  exact ⟨by rw [Nat.mul_add_div p, Nat.div_eq_of_lt lt1, Nat.add_zero], by rw [Nat.mul_add_mod, Nat.mod_eq_of_lt lt1]⟩
theorem pre_x (pre suf : List Bool) {x y : Nat} (hx : x % 2 ^ (nx suf + 1) = 2 ^ nx suf) (hy : y % 2 ^ ny suf = 0) :
    keyL (pre ++ true :: suf) x y % 2 ^ (suf.length + 1) = 2 ^ suf.length ∧ keyL (pre ++ true :: suf) (x - 1) (y + 2 ^ ny suf - 1) + 1 = keyL (pre ++ true :: suf) x y := by
  obtain ⟨h1, h2, h3, h4, h5, h6⟩ := odd_pre hx
  obtain ⟨k1, k2⟩ := mul_post hy
  have p := two_pos suf.length
  have ones := keyL_ones suf
  have a1 : keyL (true :: suf) x y = 2 ^ suf.length := by
    show x / 2 ^ nx suf % 2 * 2 ^ suf.length + keyL suf x y = _
    rw [h3, keyL_mod suf x y, h2, hy, keyL_zero, Nat.one_mul, Nat.add_zero]
  have a2 : keyL (true :: suf) (x - 1) (y + 2 ^ ny suf - 1) + 1 = 2 ^ suf.length := by
    show (x - 1) / 2 ^ nx suf % 2 * 2 ^ suf.length + keyL suf (x - 1) (y + 2 ^ ny suf - 1) + 1 = _
    rw [h5, keyL_mod suf (x - 1), h6, k2, Nat.zero_mul, Nat.zero_add]
    exact ones
  have len : (true :: suf).length = suf.length + 1 := rfl
  rw [keyL_app, keyL_app, nx_t, ny_t, h4, k1, len, a1]
  refine ⟨?_, by omega⟩
  rw [Nat.mul_comm, Nat.mul_add_mod, Nat.mod_eq_of_lt (by rw [Nat.pow_succ]; omega)]
theorem rank_x (pre suf : List Bool) {x y : Nat} (h : keyL (pre ++ true :: suf) x y % 2 ^ (suf.length + 1) = 2 ^ suf.length) : x % 2 ^ (nx suf + 1) = 2 ^ nx suf ∧ y % 2 ^ ny suf = 0 := by
  have p := two_pos suf.length
  have len : (true :: suf).length = suf.length + 1 := rfl
  have lt := keyL_lt (true :: suf) x y
  rw [len] at lt
  rw [keyL_app, len, Nat.mul_comm, Nat.mul_add_mod, Nat.mod_eq_of_lt lt] at h
  have h : x / 2 ^ nx suf % 2 * 2 ^ suf.length + keyL suf x y = 2 ^ suf.length := h
  have l2 := keyL_lt suf x y
  have b2 := Nat.mod_lt (x / 2 ^ nx suf) (show 0 < 2 by decide)
  have b1 : x / 2 ^ nx suf % 2 = 1 := by
    rcases (show x / 2 ^ nx suf % 2 = 0 ∨ x / 2 ^ nx suf % 2 = 1 by omega) with e | e
    · rw [e, Nat.zero_mul] at h
      omega
    · exact e
  rw [b1, Nat.one_mul] at h
  have k0 : keyL suf x y = 0 := by omega
  have ex := xOf_key suf x y
  have ey := yOf_key suf x y
  rw [k0, xOf_zero] at ex
  rw [k0, yOf_zero] at ey
  exact ⟨(odd_iff _ _).mpr ⟨ex.symm, b1⟩, ey.symm⟩
theorem pre_y (pre suf : List Bool) {x y : Nat} (hy : y % 2 ^ (ny suf + 1) = 2 ^ ny suf) (hx : x % 2 ^ nx suf = 0) :
    keyL (pre ++ false :: suf) x y % 2 ^ (suf.length + 1) = 2 ^ suf.length ∧ keyL (pre ++ false :: suf) (x + 2 ^ nx suf - 1) (y - 1) + 1 = keyL (pre ++ false :: suf) x y := by
  obtain ⟨h1, h2, h3, h4, h5, h6⟩ := odd_pre hy
  obtain ⟨k1, k2⟩ := mul_post hx
  have p := two_pos suf.length
  have ones := keyL_ones suf
  have a1 : keyL (false :: suf) x y = 2 ^ suf.length := by
    show y / 2 ^ ny suf % 2 * 2 ^ suf.length + keyL suf x y = _
    rw [h3, keyL_mod suf x y, h2, hx, keyL_zero, Nat.one_mul, Nat.add_zero]
  have a2 : keyL (false :: suf) (x + 2 ^ nx suf - 1) (y - 1) + 1 = 2 ^ suf.length := by
    show (y - 1) / 2 ^ ny suf % 2 * 2 ^ suf.length + keyL suf (x + 2 ^ nx suf - 1) (y - 1) + 1 = _
    rw [h5, keyL_mod suf (x + 2 ^ nx suf - 1), h6, k2, Nat.zero_mul, Nat.zero_add]
    exact ones
  have len : (false :: suf).length = suf.length + 1 := rfl
  rw [keyL_app, keyL_app, nx_f, ny_f, h4, k1, len, a1]
  refine ⟨?_, by omega⟩
  rw [Nat.mul_comm, Nat.mul_add_mod, Nat.mod_eq_of_lt (by rw [Nat.pow_succ]; omega)]
theorem rank_y (pre suf : List Bool) {x y : Nat} (h : keyL (pre ++ false :: suf) x y % 2 ^ (suf.length + 1) = 2 ^ suf.length) : y % 2 ^ (ny suf + 1) = 2 ^ ny suf ∧ x % 2 ^ nx suf = 0 := by
  have p := two_pos suf.length
  have len : (false :: suf).length = suf.length + 1 := rfl
  have lt := keyL_lt (false :: suf) x y
  rw [len] at lt
  rw [keyL_app, len, Nat.mul_comm, Nat.mul_add_mod, Nat.mod_eq_of_lt lt] at h
  have h : y / 2 ^ ny suf % 2 * 2 ^ suf.length + keyL suf x y = 2 ^ suf.length := h
  have l2 := keyL_lt suf x y
  have b2 := Nat.mod_lt (y / 2 ^ ny suf) (show 0 < 2 by decide)
  have b1 : y / 2 ^ ny suf % 2 = 1 := by
    rcases (show y / 2 ^ ny suf % 2 = 0 ∨ y / 2 ^ ny suf % 2 = 1 by omega) with e | e
    · rw [e, Nat.zero_mul] at h
      omega
    · exact e
  rw [b1, Nat.one_mul] at h
  have k0 : keyL suf x y = 0 := by omega
  have ex := xOf_key suf x y
  have ey := yOf_key suf x y
  rw [k0, xOf_zero] at ex
  rw [k0, yOf_zero] at ey
  exact ⟨(odd_iff _ _).mpr ⟨ey.symm, b1⟩, ex.symm⟩
theorem key_inj {l : List Bool} {x y x' y' : Nat} (hx : x < 2 ^ nx l) (hy : y < 2 ^ ny l) (hx' : x' < 2 ^ nx l) (hy' : y' < 2 ^ ny l) (h : keyL l x y = keyL l x' y') : x = x' ∧ y = y' := by
  have ex := congrArg (xOf l) h
  have ey := congrArg (yOf l) h
  rw [xOf_key, xOf_key, Nat.mod_eq_of_lt hx, Nat.mod_eq_of_lt hx'] at ex
  rw [yOf_key, yOf_key, Nat.mod_eq_of_lt hy, Nat.mod_eq_of_lt hy'] at ey
  exact ⟨ex, ey⟩
/-- the cell (x, y)'s key has the one before it in the box -/
structure Bx (l : List Bool) (x1 y1 x2 y2 : Nat) : Prop where
  x : x1 ≤ x2
  y : y1 ≤ y2
  bx : x2 < 2 ^ nx l
  by_ : y2 < 2 ^ ny l
def InB (x1 y1 x2 y2 x y : Nat) : Prop := x1 ≤ x ∧ x ≤ x2 ∧ y1 ≤ y ∧ y ≤ y2
def HasPre (l : List Bool) (x1 y1 x2 y2 K : Nat) : Prop := ∃ x y, InB x1 y1 x2 y2 x y ∧ keyL l x y + 1 = K
theorem has_x {pre suf : List Bool} {x1 y1 x2 y2 x y : Nat} (b : Bx (pre ++ true :: suf) x1 y1 x2 y2) (i : InB x1 y1 x2 y2 x y) :
    (HasPre (pre ++ true :: suf) x1 y1 x2 y2 (keyL (pre ++ true :: suf) x y) ∧ keyL (pre ++ true :: suf) x y % 2 ^ (suf.length + 1) = 2 ^ suf.length) ↔ ((x1 + 1 ≤ x ∧ x % 2 ^ (nx suf + 1) = 2 ^ nx suf) ∧ (y % 2 ^ ny suf = 0 ∧ y + 2 ^ ny suf ≤ y2 + 1)) := by
  obtain ⟨i1, i2, i3, i4⟩ := i
  obtain ⟨b1, b2, b3, b4⟩ := b
  have p := two_pos (ny suf)
  constructor
  · rintro ⟨⟨x', y', ⟨j1, j2, j3, j4⟩, e⟩, hr⟩
    obtain ⟨hx, hy⟩ := rank_x pre suf hr
    obtain ⟨_, e2⟩ := pre_x pre suf hx hy
    have hx1 := (odd_pre hx).1
    have hyl : y + 2 ^ ny suf - 1 < 2 ^ ny (pre ++ true :: suf) := by
      have := (mul_post hy).1
      have e3 : ny (pre ++ true :: suf) = ny pre + ny suf := by rw [ny_app, ny_t]
      rw [e3, Nat.pow_add, Nat.mul_comm]
      refine (Nat.div_lt_iff_lt_mul p).mp ?_ |> fun h => by rw [Nat.mul_comm]; exact h
      rw [this]
      refine Nat.div_lt_of_lt_mul ?_
      rw [Nat.mul_comm, ← Nat.pow_add, ← e3]
      omega
    obtain ⟨z1, z2⟩ := key_inj (l := pre ++ true :: suf) (x := x') (y := y') (x' := x - 1) (y' := y + 2 ^ ny suf - 1) (by omega) (by omega) (by omega) hyl (by omega)
    omega
  · rintro ⟨⟨c1, c2⟩, c3, c4⟩
    obtain ⟨e1, e2⟩ := pre_x pre suf c2 c3
    exact ⟨⟨x - 1, y + 2 ^ ny suf - 1, ⟨by omega, by omega, by omega, by omega⟩, e2⟩, e1⟩
theorem has_y {pre suf : List Bool} {x1 y1 x2 y2 x y : Nat} (b : Bx (pre ++ false :: suf) x1 y1 x2 y2) (i : InB x1 y1 x2 y2 x y) :
    (HasPre (pre ++ false :: suf) x1 y1 x2 y2 (keyL (pre ++ false :: suf) x y) ∧ keyL (pre ++ false :: suf) x y % 2 ^ (suf.length + 1) = 2 ^ suf.length) ↔ ((x % 2 ^ nx suf = 0 ∧ x + 2 ^ nx suf ≤ x2 + 1) ∧ (y1 + 1 ≤ y ∧ y % 2 ^ (ny suf + 1) = 2 ^ ny suf)) := by
  obtain ⟨i1, i2, i3, i4⟩ := i
  obtain ⟨b1, b2, b3, b4⟩ := b
  have p := two_pos (nx suf)
  constructor
  · rintro ⟨⟨x', y', ⟨j1, j2, j3, j4⟩, e⟩, hr⟩
    obtain ⟨hy, hx⟩ := rank_y pre suf hr
    obtain ⟨_, e2⟩ := pre_y pre suf hy hx
    have hy1 := (odd_pre hy).1
    have hxl : x + 2 ^ nx suf - 1 < 2 ^ nx (pre ++ false :: suf) := by
      have := (mul_post hx).1
      have e3 : nx (pre ++ false :: suf) = nx pre + nx suf := by rw [nx_app, nx_f]
      rw [e3, Nat.pow_add, Nat.mul_comm]
      refine (Nat.div_lt_iff_lt_mul p).mp ?_ |> fun h => by rw [Nat.mul_comm]; exact h
      rw [this]
      refine Nat.div_lt_of_lt_mul ?_
      rw [Nat.mul_comm, ← Nat.pow_add, ← e3]
      omega
    obtain ⟨z1, z2⟩ := key_inj (l := pre ++ false :: suf) (x := x') (y := y') (x' := x + 2 ^ nx suf - 1) (y' := y - 1) (by omega) (by omega) hxl (by omega) (by omega)
    omega
  · rintro ⟨⟨c1, c2⟩, c3, c4⟩
    obtain ⟨e1, e2⟩ := pre_y pre suf c4 c1
    exact ⟨⟨x + 2 ^ nx suf - 1, y - 1, ⟨by omega, by omega, by omega, by omega⟩, e2⟩, e1⟩
end Lk

set_option Elab.async false
set_option linter.all false
set_option maxRecDepth 100000
set_option maxHeartbeats 4000000
namespace Lk
open PySem PySem.Spec PyProof.Rows L2
/-! ### the keys of a box -/
def boxN (l : List Bool) (x1 y1 w h : Nat) : List Nat := (List.range w).flatMap fun a => (List.range h).map fun b => keyL l (x1 + a) (y1 + b)
theorem boxN_succ (l : List Bool) (x1 y1 w h : Nat) : boxN l x1 y1 (w + 1) h = boxN l x1 y1 w h ++ (List.range h).map fun b => keyL l (x1 + w) (y1 + b) := by
  unfold boxN
  rw [List.range_succ, List.flatMap_append, List.flatMap_singleton]
theorem boxN_len (l : List Bool) (x1 y1 h : Nat) : ∀ w, (boxN l x1 y1 w h).length = w * h
  | 0 => by rw [Nat.zero_mul]; rfl
  | w + 1 => by rw [boxN_succ, List.length_append, boxN_len l x1 y1 h w, List.length_map, List.length_range, Nat.succ_mul]
theorem boxN_mem {l : List Bool} {x1 y1 w h K : Nat} : K ∈ boxN l x1 y1 w h ↔ ∃ a b, a < w ∧ b < h ∧ keyL l (x1 + a) (y1 + b) = K := by
  unfold boxN
  rw [List.mem_flatMap]
  constructor
  · rintro ⟨a, ha, h2⟩
    obtain ⟨b, hb, e⟩ := List.mem_map.mp h2
    exact ⟨a, b, List.mem_range.mp ha, List.mem_range.mp hb, e⟩
  · rintro ⟨a, b, ha, hb, e⟩
    exact ⟨a, List.mem_range.mpr ha, List.mem_map.mpr ⟨b, List.mem_range.mpr hb, e⟩⟩
/-- a count over the keys of a box, where it asks of x and of y apart -/
theorem boxN_count {l : List Bool} {x1 y1 h : Nat} {P : Nat → Bool} {px py : Nat → Bool} : ∀ w, (∀ a b, a < w → b < h → P (keyL l (x1 + a) (y1 + b)) = (px a && py b)) →
    (boxN l x1 y1 w h).countP P = (List.range w).countP px * (List.range h).countP py
  | 0, _ => by
    show 0 = 0 * _
    rw [Nat.zero_mul]
  | w + 1, hp => by
    rw [boxN_succ, List.countP_append, boxN_count w fun a b ha hb => hp a b (by omega) hb, List.range_succ, List.countP_append, Nat.add_mul, List.countP_singleton, List.countP_map]
    congr 1
    cases e : px w with
    | true =>
      rw [if_pos rfl, Nat.one_mul]
      apply List.countP_congr
      intro b hb
      show P (keyL l (x1 + w) (y1 + b)) = true ↔ py b = true
      rw [hp w b (by omega) (List.mem_range.mp hb), e, Bool.true_and]
    | false =>
      rw [if_neg (by decide), Nat.zero_mul]
      apply countP_none
      intro b hb
      show P (keyL l (x1 + w) (y1 + b)) = false
      rw [hp w b (by omega) (List.mem_range.mp hb), e, Bool.false_and]
theorem boxN_nodup {l : List Bool} {x1 y1 h : Nat} (hy : y1 + h ≤ 2 ^ ny l) : ∀ w, x1 + w ≤ 2 ^ nx l → (boxN l x1 y1 w h).Nodup
  | 0, _ => List.nodup_nil
  | w + 1, hx => by
    rw [boxN_succ]
    refine List.nodup_append.mpr ⟨boxN_nodup hy w (by omega), ?_, ?_⟩
    · refine List.pairwise_map.mpr (List.Pairwise.imp_of_mem (R := (· ≠ ·)) (fun {a b} ha hb hne e => ?_) List.nodup_range)
      have ha := List.mem_range.mp ha
      have hb := List.mem_range.mp hb
      have := (key_inj (l := l) (x := x1 + w) (y := y1 + a) (x' := x1 + w) (y' := y1 + b) (by omega) (by omega) (by omega) (by omega) e).2
      omega
    · intro a ha b hb e
      obtain ⟨c, d, hc, hd, e1⟩ := boxN_mem.mp ha
      obtain ⟨f, hf, e2⟩ := List.mem_map.mp hb
      have hf := List.mem_range.mp hf
      have := (key_inj (l := l) (x := x1 + c) (y := y1 + d) (x' := x1 + w) (y' := y1 + f) (by omega) (by omega) (by omega) (by omega) (by omega)).1
      omega
/-! ### neighbours in a list -/
def pred (ks : List Nat) (K : Nat) : Bool := ks.any fun k => decide (k + 1 = K)
theorem pred_iff {ks : List Nat} {K : Nat} : pred ks K = true ↔ ∃ k ∈ ks, k + 1 = K := by
  unfold pred
  rw [List.any_eq_true]
  simp only [decide_eq_true_eq]
theorem pred_not {ks : List Nat} {K : Nat} (h : ¬ ∃ k ∈ ks, k + 1 = K) : pred ks K = false := by
  rw [Bool.eq_false_iff]
  exact fun z => h (pred_iff.mp z)
theorem pred_eq {ks ks' : List Nat} {K K' : Nat} (h : (∃ k ∈ ks, k + 1 = K) ↔ (∃ k ∈ ks', k + 1 = K')) : pred ks K = pred ks' K' := by
  rw [Bool.eq_iff_iff, pred_iff, pred_iff]
  exact h
/-- how many of the list's items are one more than the item before, and as p asks -/
def adj (p : Nat → Bool) : List Nat → Nat
  | [] => 0
  | [_] => 0
  | a :: b :: r => (if decide (b = a + 1) && p b then 1 else 0) + adj p (b :: r)
theorem adj_cons2 (p : Nat → Bool) (a b : Nat) (r : List Nat) : adj p (a :: b :: r) = (if decide (b = a + 1) && p b then 1 else 0) + adj p (b :: r) := rfl
theorem adj_count (p : Nat → Bool) : ∀ ks : List Nat, ks.Pairwise (· < ·) → adj p ks = ks.countP fun K => pred ks K && p K
  | [], _ => rfl
  | [a], _ => by
    show 0 = _
    rw [List.countP_singleton]
    have : ¬ ∃ k ∈ [a], k + 1 = a := by
      rintro ⟨k, hk, e⟩
      have := List.mem_singleton.mp hk
      omega
    rw [pred_not this]
    rfl
  | a :: b :: r, hp => by
    obtain ⟨h1, h2⟩ := List.pairwise_cons.mp hp
    obtain ⟨h3, h4⟩ := List.pairwise_cons.mp h2
    have ih := adj_count p (b :: r) h2
    have hab := h1 b List.mem_cons_self
    rw [adj_cons2, ih]
    have na : ¬ ∃ k ∈ a :: b :: r, k + 1 = a := by
      rintro ⟨k, hk, e⟩
      rcases List.mem_cons.mp hk with z | z
      · omega
      · have := h1 k z
        omega
    have nb : ¬ ∃ k ∈ b :: r, k + 1 = b := by
      rintro ⟨k, hk, e⟩
      rcases List.mem_cons.mp hk with z | z
      · omega
      · have := h3 k z
        omega
    have eb : (∃ k ∈ a :: b :: r, k + 1 = b) ↔ b = a + 1 := by
      constructor
      · rintro ⟨k, hk, e⟩
        rcases List.mem_cons.mp hk with z | z
        · omega
        · exact absurd ⟨k, z, e⟩ nb
      · intro e
        exact ⟨a, List.mem_cons_self, e.symm⟩
    rw [List.countP_cons, List.countP_cons, List.countP_cons]
    rw [pred_not na, pred_not nb, Bool.false_and, Bool.false_and]
    have tl : r.countP (fun K => pred (a :: b :: r) K && p K) = r.countP (fun K => pred (b :: r) K && p K) := by
      apply List.countP_congr
      intro K hK
      have hbK := h3 K hK
      have : (∃ k ∈ a :: b :: r, k + 1 = K) ↔ (∃ k ∈ b :: r, k + 1 = K) := by
        constructor
        · rintro ⟨k, hk, e⟩
          rcases List.mem_cons.mp hk with z | z
          · omega
          · exact ⟨k, z, e⟩
        · rintro ⟨k, hk, e⟩
          exact ⟨k, List.mem_cons_of_mem _ hk, e⟩
      rw [pred_eq this]
    have eb2 : pred (a :: b :: r) b = decide (b = a + 1) := by
      rw [Bool.eq_iff_iff, pred_iff, decide_eq_true_eq]
      exact eb
    rw [tl, eb2]
    simp
    omega
/-! ### what a letter saves -/
def savI (b : Bool) (i j : Nat) (x1 y1 x2 y2 : Nat) : Int := if b = true then bordI i x1 x2 * spanI j y1 y2 else bordI j y1 y2 * spanI i x1 x2
theorem hasPre_iff {l : List Bool} {x1 y1 x2 y2 K : Nat} (hx : x1 ≤ x2) (hy : y1 ≤ y2) : HasPre l x1 y1 x2 y2 K ↔ ∃ k ∈ boxN l x1 y1 (x2 + 1 - x1) (y2 + 1 - y1), k + 1 = K := by
  constructor
  · rintro ⟨x, y, ⟨h1, h2, h3, h4⟩, e⟩
    exact ⟨_, boxN_mem.mpr ⟨x - x1, y - y1, by omega, by omega, rfl⟩, by rw [show x1 + (x - x1) = x by omega, show y1 + (y - y1) = y by omega]; exact e⟩
  · rintro ⟨k, hk, e⟩
    obtain ⟨a, b, ha, hb, e2⟩ := boxN_mem.mp hk
    exact ⟨x1 + a, y1 + b, ⟨by omega, by omega, by omega, by omega⟩, by omega⟩
/-- an odd multiple behind the first -/
theorem odd_count {x1 x2 : Nat} (d : Nat) (h : x1 ≤ x2) : (List.range (x2 + 1 - x1)).countP (fun a => decide (x1 + 1 ≤ x1 + a) && decide ((x1 + a) % 2 ^ (d + 1) = 2 ^ d)) = oddm d (x1 + 1) (x2 - x1) := by
  rw [show x2 + 1 - x1 = (x2 - x1) + 1 by omega, List.range_succ_eq_map, List.countP_cons, List.countP_map]
  rw [decide_eq_false (show ¬ x1 + 1 ≤ x1 + 0 by omega), Bool.false_and, if_neg (by decide), Nat.add_zero]
  unfold oddm
  apply List.countP_congr
  intro a _
  show (decide (x1 + 1 ≤ x1 + (a + 1)) && decide ((x1 + (a + 1)) % 2 ^ (d + 1) = 2 ^ d)) = true ↔ _
  rw [decide_eq_true (show x1 + 1 ≤ x1 + (a + 1) by omega), Bool.true_and, show x1 + (a + 1) = x1 + 1 + a by omega]
theorem sav_count {l : List Bool} {x1 y1 x2 y2 : Nat} (b : Bx l x1 y1 x2 y2) {t : Nat} (ht : t < l.length) :
    (((boxN l x1 y1 (x2 + 1 - x1) (y2 + 1 - y1)).countP (fun K => pred (boxN l x1 y1 (x2 + 1 - x1) (y2 + 1 - y1)) K && decide (K % 2 ^ (l.length - 1 - t + 1) = 2 ^ (l.length - 1 - t))) : Nat) : Int) = savI l[t] (nx (l.drop (t + 1))) (ny (l.drop (t + 1))) x1 y1 x2 y2 := by
  have sp : l = l.take t ++ l[t] :: l.drop (t + 1) := by rw [← List.drop_eq_getElem_cons ht, List.take_append_drop]
  have ls : (l.drop (t + 1)).length = l.length - 1 - t := by rw [List.length_drop]; omega
  generalize hpre : l.take t = pre at sp
  generalize hsuf : l.drop (t + 1) = suf at sp ls ⊢
  generalize hb : l[t] = c at sp ⊢
  have bb := b
  rw [sp] at bb
  rw [← ls]
  cases c with
  | true =>
    unfold savI
    rw [if_pos rfl, bord_eq _ b.x, span_eq _ b.y, ← odd_count _ b.x]
    unfold full
    rw [← Int.natCast_mul]
    congr 1
    refine boxN_count _ fun a d ha hd => ?_
    have key := has_x bb (x := x1 + a) (y := y1 + d) ⟨by omega, by omega, by omega, by omega⟩
    rw [← sp] at key
    rw [Bool.eq_iff_iff]
    simp only [Bool.and_eq_true, decide_eq_true_eq]
    rw [pred_iff, ← hasPre_iff b.x b.y]
    exact key
  | false =>
    unfold savI
    rw [if_neg (by decide), bord_eq _ b.y, span_eq _ b.x, ← odd_count _ b.y]
    unfold full
    rw [← Int.natCast_mul, Nat.mul_comm]
    congr 1
    refine boxN_count _ fun a d ha hd => ?_
    have key := has_y bb (x := x1 + a) (y := y1 + d) ⟨by omega, by omega, by omega, by omega⟩
    rw [← sp] at key
    rw [Bool.eq_iff_iff]
    simp only [Bool.and_eq_true, decide_eq_true_eq]
    rw [pred_iff, ← hasPre_iff b.x b.y]
    exact key
def savL (l : List Bool) (x1 y1 x2 y2 : Nat) : List Int := (feetL l).map fun f => savI f.1 f.2.1 f.2.2 x1 y1 x2 y2
theorem savL_get (l : List Bool) {x1 y1 x2 y2 i : Nat} (h : i < l.length) : (savL l x1 y1 x2 y2)[i]?.toList = [savI l[i] (nx (l.drop (i + 1))) (ny (l.drop (i + 1))) x1 y1 x2 y2] := by
  unfold savL
  rw [List.getElem?_map, feetL_get l i h]
  rfl
theorem oddm_le (d lo n : Nat) : oddm d lo n ≤ n := by
  unfold oddm
  exact Nat.le_trans List.countP_le_length (Nat.le_of_eq List.length_range)
theorem full_le (d y1 y2 : Nat) : full d y1 y2 ≤ y2 + 1 - y1 := by
  unfold full
  exact Nat.le_trans List.countP_le_length (Nat.le_of_eq List.length_range)
theorem sav_mul {i j x1 y1 x2 y2 : Nat} (h1 : x1 ≤ x2) (h2 : y1 ≤ y2) (hx : x2 < 2 ^ 100) (hy : y2 < 2 ^ 100) : CMulW (bordI i x1 x2) (spanI j y1 y2) := by
  rw [bord_eq i h1, span_eq j h2]
  have a := oddm_le i (x1 + 1) (x2 - x1)
  have b := full_le j y1 y2
  exact cmulN (Nat.lt_of_le_of_lt (show oddm i (x1 + 1) (x2 - x1) ≤ 2 ^ 100 by omega) (pw (x := 100) (by omega))) (Nat.lt_of_le_of_lt (show full j y1 y2 ≤ 2 ^ 100 by omega) (pw (x := 100) (by omega)))
end Lk

set_option Elab.async false
set_option linter.all false
set_option maxRecDepth 100000
set_option maxHeartbeats 4000000
namespace Lk
open PySem PySem.Spec PyProof.Rows L2
/-! ### ranks -/
theorem rank_ex : ∀ (K : Nat), 1 ≤ K → ∃ r, K % 2 ^ (r + 1) = 2 ^ r ∧ 2 ^ r ≤ K := by
  intro K
  induction K using Nat.strongRecOn with
  | _ K ih =>
    intro hK
    by_cases h : K % 2 = 1
    · exact ⟨0, h, hK⟩
    · obtain ⟨r, h1, h2⟩ := ih (K / 2) (by omega) (by omega)
      refine ⟨r + 1, ?_, ?_⟩
      · have e : K = 2 * (K / 2) := by omega
        rw [e, Nat.pow_succ 2 (r + 1), Nat.mul_comm _ 2, Nat.mul_mod_mul_left, h1, Nat.pow_succ, Nat.mul_comm]
      · rw [Nat.pow_succ]
        omega
theorem rank_low {K d t : Nat} (h : K % 2 ^ (d + 1) = 2 ^ d) (ht : t < d) : K / 2 ^ t % 2 = 0 := by
  obtain ⟨a, _⟩ := (odd_iff K d).mp h
  have e : K = 2 ^ d * (K / 2 ^ d) := by
    have := Nat.div_add_mod K (2 ^ d)
    omega
  obtain ⟨c, rfl⟩ : ∃ c, d = t + 1 + c := ⟨d - t - 1, by omega⟩
  rw [e, Nat.pow_add, Nat.pow_succ, Nat.mul_assoc, Nat.mul_assoc, Nat.mul_div_right _ (two_pos t), Nat.mul_mod_right]
theorem rank_one {K d d' : Nat} (h : K % 2 ^ (d + 1) = 2 ^ d) (h' : K % 2 ^ (d' + 1) = 2 ^ d') : d = d' := by
  rcases Nat.lt_trichotomy d d' with z | z | z
  · have := rank_low h' z
    have := ((odd_iff K d).mp h).2
    omega
  · exact z
  · have := rank_low h z
    have := ((odd_iff K d').mp h').2
    omega
/-! ### from sorted ints to naturals -/
theorem nat_list {ns : List Int} {ms : List Nat} (hp : ns.Perm (ms.map fun m => ((m : Nat) : Int))) (hs : ns.Pairwise (· ≤ ·)) (hd : ms.Nodup) : ∃ ks : List Nat, ns = ks.map (fun m => ((m : Nat) : Int)) ∧ ks.Perm ms ∧ ks.Pairwise (· < ·) := by
  have e : ns = (ns.map Int.toNat).map fun m => ((m : Nat) : Int) := by
    rw [List.map_map]
    apply List.ext_getElem?
    intro i
    rw [List.getElem?_map]
    cases h : ns[i]? with
    | none => rfl
    | some n =>
      have hm := hp.mem_iff.mp (List.mem_of_getElem? h)
      obtain ⟨m, _, rfl⟩ := List.mem_map.mp hm
      rfl
  have p : (ns.map Int.toNat).Perm ms := by
    have := hp.map Int.toNat
    rw [List.map_map] at this
    have e2 : ms.map (Int.toNat ∘ fun m : Nat => ((m : Nat) : Int)) = ms := by
      conv => rhs; rw [← List.map_id ms]
      apply List.map_congr_left
      intro m _
      rfl
    rw [e2] at this
    exact this
  refine ⟨ns.map Int.toNat, e, p, ?_⟩
  have nd := p.nodup_iff.mpr hd
  have le : (ns.map Int.toNat).Pairwise (· ≤ ·) := by
    refine List.pairwise_map.mpr (hs.imp fun {a b} h => ?_)
    exact Int.toNat_le_toNat h
  exact (le.and nd).imp fun {a b} h => Nat.lt_of_le_of_ne h.1 h.2
/-! ### the counts of the letters, pair by pair -/
def pT (n t : Nat) (K : Nat) : Bool := decide (K % 2 ^ (n - 1 - t + 1) = 2 ^ (n - 1 - t))
theorem adj_snoc (p : Nat → Bool) (a b : Nat) : ∀ l : List Nat, adj p (l ++ [a, b]) = adj p (l ++ [a]) + (if decide (b = a + 1) && p b then 1 else 0)
  | [] => by
    show (if _ then 1 else 0) + 0 = 0 + _
    omega
  | [c] => by
    show (if _ then 1 else 0) + ((if _ then 1 else 0) + 0) = ((if _ then 1 else 0) + 0) + _
    omega
  | c :: d :: r => by
    have ih := adj_snoc p a b (d :: r)
    show (if _ then 1 else 0) + adj p (d :: r ++ [a, b]) = ((if _ then 1 else 0) + adj p (d :: r ++ [a])) + _
    rw [ih]
    omega
theorem adj_take (p : Nat → Bool) {ks : List Nat} {i a b : Nat} (ha : ks[i]? = some a) (hb : ks[i + 1]? = some b) : adj p (ks.take (i + 2)) = adj p (ks.take (i + 1)) + (if decide (b = a + 1) && p b then 1 else 0) := by
  have e1 : ks.take (i + 1) = ks.take i ++ [a] := by rw [List.take_succ, ha]; rfl
  have e2 : ks.take (i + 2) = ks.take i ++ [a, b] := by rw [List.take_succ, hb, e1, List.append_assoc]; rfl
  rw [e1, e2, adj_snoc]
def dueL (n : Nat) (ks : List Nat) (i : Nat) : List Int := (List.range n).map fun t => ((adj (pT n t) (ks.take (i + 1)) : Nat) : Int)
theorem dueL_len (n : Nat) (ks : List Nat) (i : Nat) : (dueL n ks i).length = n := by
  unfold dueL
  rw [List.length_map, List.length_range]
theorem dueL_get {n : Nat} (ks : List Nat) (i : Nat) {t : Nat} (ht : t < n) : (dueL n ks i)[t]? = some ((adj (pT n t) (ks.take (i + 1)) : Nat) : Int) := by
  unfold dueL
  rw [List.getElem?_map, List.getElem?_range ht]
  rfl
theorem dueL_start (n : Nat) (ks : List Nat) : dueL n ks 0 = List.replicate n 0 := by
  unfold dueL
  have e : ∀ p, adj p (ks.take 1) = 0 := by
    intro p
    cases ks with
    | nil => rfl
    | cons a r => rfl
  rw [show (fun t => ((adj (pT n t) (ks.take (0 + 1)) : Nat) : Int)) = fun _ => (0 : Int) by
    funext t
    rw [e]
    rfl]
  rw [List.map_const', List.length_range]
theorem dueL_no {n : Nat} {ks : List Nat} {i a b : Nat} (ha : ks[i]? = some a) (hb : ks[i + 1]? = some b) (h : b ≠ a + 1) : dueL n ks (i + 1) = dueL n ks i := by
  unfold dueL
  apply List.map_congr_left
  intro t _
  rw [adj_take _ ha hb, decide_eq_false h, Bool.false_and]
  rfl
theorem dueL_yes {n : Nat} {ks : List Nat} {i a b r : Nat} (ha : ks[i]? = some a) (hb : ks[i + 1]? = some b) (h : b = a + 1) (hr : b % 2 ^ (r + 1) = 2 ^ r) (hn : r < n) :
    (dueL n ks i).set (n - 1 - r) (((adj (pT n (n - 1 - r)) (ks.take (i + 1)) : Nat) : Int) + 1) = dueL n ks (i + 1) := by
  apply List.ext_getElem?
  intro t
  by_cases ht : t < n
  · rw [dueL_get ks (i + 1) ht, adj_take _ ha hb, decide_eq_true h, Bool.true_and, List.getElem?_set]
    by_cases e : n - 1 - r = t
    · subst e
      rw [if_pos rfl, if_pos (by rw [dueL_len]; exact ht)]
      have : pT n (n - 1 - r) b = true := by
        unfold pT
        rw [show n - 1 - (n - 1 - r) = r by omega]
        exact decide_eq_true hr
      rw [this, if_pos rfl]
      rfl
    · rw [if_neg e, dueL_get ks i ht]
      have : pT n t b = false := by
        unfold pT
        refine decide_eq_false fun z => e ?_
        have := rank_one hr z
        omega
      rw [this]
      rfl
  · rw [List.getElem?_eq_none (by rw [List.length_set, dueL_len]; omega), List.getElem?_eq_none (by rw [dueL_len]; omega)]
theorem pred_perm {ks ms : List Nat} (h : ks.Perm ms) (K : Nat) : pred ks K = pred ms K := pred_eq ⟨fun ⟨k, h1, h2⟩ => ⟨k, h.mem_iff.mp h1, h2⟩, fun ⟨k, h1, h2⟩ => ⟨k, h.mem_iff.mpr h1, h2⟩⟩
theorem adj_box {l : List Bool} {x1 y1 x2 y2 : Nat} (b : Bx l x1 y1 x2 y2) {ks : List Nat} (hs : ks.Pairwise (· < ·)) (hp : ks.Perm (boxN l x1 y1 (x2 + 1 - x1) (y2 + 1 - y1))) {t : Nat} (ht : t < l.length) :
    ((adj (pT l.length t) ks : Nat) : Int) = savI l[t] (nx (l.drop (t + 1))) (ny (l.drop (t + 1))) x1 y1 x2 y2 := by
  rw [adj_count _ ks hs, hp.countP_eq, ← sav_count b ht]
  congr 2
  funext K
  rw [pred_perm hp]
  rfl
theorem due_end {l : List Bool} {x1 y1 x2 y2 : Nat} (b : Bx l x1 y1 x2 y2) {ks : List Nat} (hs : ks.Pairwise (· < ·)) (hp : ks.Perm (boxN l x1 y1 (x2 + 1 - x1) (y2 + 1 - y1))) {i : Nat} (hi : ks.length ≤ i + 1) : dueL l.length ks i = savL l x1 y1 x2 y2 := by
  apply List.ext_getElem?
  intro t
  by_cases ht : t < l.length
  · rw [dueL_get ks i ht, List.take_of_length_le hi, adj_box b hs hp ht]
    unfold savL
    rw [List.getElem?_map, feetL_get l t ht]
    rfl
  · rw [List.getElem?_eq_none (by rw [dueL_len]; omega), List.getElem?_eq_none (by unfold savL; rw [List.length_map, feetL_len]; omega)]
theorem adj_le (p : Nat → Bool) : ∀ ks : List Nat, adj p ks ≤ ks.length
  | [] => Nat.le_refl _
  | [_] => Nat.zero_le _
  | a :: b :: r => by
    have := adj_le p (b :: r)
    rw [adj_cons2]
    rw [List.length_cons]
    split <;> omega
theorem ix_nat' {n j : Nat} (hj : j < n) : ixN n (j : Int) = some j := by
  unfold ixN
  rw [if_pos (by omega), if_pos (by omega), Int.toNat_natCast]
end Lk

set_option Elab.async false
set_option linter.all false
set_option maxRecDepth 100000
set_option maxHeartbeats 4000000
namespace Lk
open PySem PySem.Spec PyProof.Rows L2
/-! ### all letters together -/
theorem sum_ind : ∀ n m : Nat, ((List.range n).map fun t => if t = m then (1 : Int) else 0).sum = if m < n then 1 else 0
  | 0, m => by
    rw [if_neg (by omega)]
    rfl
  | n + 1, m => by
    rw [List.range_succ, List.map_append, List.sum_append, sum_ind n m, List.map_singleton, List.sum_singleton]
    by_cases h : m < n
    · rw [if_pos h, if_neg (by omega), if_pos (by omega)]
      rfl
    · rw [if_neg h]
      by_cases e : n = m
      · rw [if_pos e, if_pos (by omega)]
        rfl
      · rw [if_neg e, if_neg (by omega)]
        rfl
theorem pT_sum {n K : Nat} (h1 : 1 ≤ K) (h2 : K < 2 ^ n) : ((List.range n).map fun t => if pT n t K = true then (1 : Int) else 0).sum = 1 := by
  obtain ⟨r, hr1, hr2⟩ := rank_ex K h1
  have hrl : r < n := by
    rcases Nat.lt_or_ge r n with z | z
    · exact z
    · have := Nat.pow_le_pow_right (n := 2) (by decide) z
      omega
  have e : ((List.range n).map fun t => if pT n t K = true then (1 : Int) else 0) = (List.range n).map fun t => if t = n - 1 - r then (1 : Int) else 0 := by
    apply List.map_congr_left
    intro t ht
    have ht := List.mem_range.mp ht
    by_cases h : t = n - 1 - r
    · rw [if_pos h]
      unfold pT
      rw [if_pos (decide_eq_true (by rw [h, show n - 1 - (n - 1 - r) = r by omega]; exact hr1))]
    · rw [if_neg h, if_neg]
      intro z
      have := rank_one hr1 (of_decide_eq_true z)
      omega
  rw [e, sum_ind, if_pos (by omega)]
theorem map_sum_add (f g : Nat → Int) : ∀ l : List Nat, (l.map fun t => f t + g t).sum = (l.map f).sum + (l.map g).sum
  | [] => rfl
  | a :: r => by
    rw [List.map_cons, List.map_cons, List.map_cons, List.sum_cons, List.sum_cons, List.sum_cons, map_sum_add f g r]
    omega
theorem map_sum_zero : ∀ l : List Nat, (l.map fun _ => (0 : Int)).sum = 0
  | [] => rfl
  | a :: r => by
    rw [List.map_cons, List.sum_cons, map_sum_zero r]
    rfl
theorem adj_sum {n : Nat} : ∀ ks : List Nat, (∀ k ∈ ks, k < 2 ^ n) → ((List.range n).map fun t => ((adj (pT n t) ks : Nat) : Int)).sum = ((adj (fun _ => true) ks : Nat) : Int)
  | [], _ => map_sum_zero _
  | [_], _ => map_sum_zero _
  | a :: b :: r, h => by
    have ih := adj_sum (b :: r) fun k hk => h k (List.mem_cons_of_mem _ hk)
    have hb := h b (List.mem_cons_of_mem _ List.mem_cons_self)
    rw [adj_cons2]
    by_cases e : b = a + 1
    · have e1 : (fun t => ((adj (pT n t) (a :: b :: r) : Nat) : Int)) = fun t => (if pT n t b = true then (1 : Int) else 0) + ((adj (pT n t) (b :: r) : Nat) : Int) := by
        funext t
        rw [adj_cons2, decide_eq_true e, Bool.true_and]
        split <;> simp
      rw [e1, map_sum_add, pT_sum (by omega) hb, ih, decide_eq_true e]
      simp
    · have e1 : (fun t => ((adj (pT n t) (a :: b :: r) : Nat) : Int)) = fun t => ((adj (pT n t) (b :: r) : Nat) : Int) := by
        funext t
        rw [adj_cons2, decide_eq_false e, Bool.false_and]
        simp
      rw [e1, ih, decide_eq_false e]
      simp
theorem sav_sum {l : List Bool} {x1 y1 x2 y2 : Nat} (b : Bx l x1 y1 x2 y2) {ks : List Nat} (hs : ks.Pairwise (· < ·)) (hp : ks.Perm (boxN l x1 y1 (x2 + 1 - x1) (y2 + 1 - y1))) : (savL l x1 y1 x2 y2).sum = ((adj (fun _ => true) ks : Nat) : Int) := by
  rw [← due_end b hs hp (i := ks.length) (by omega)]
  unfold dueL
  rw [List.take_of_length_le (by omega)]
  refine adj_sum ks fun k hk => ?_
  obtain ⟨u, v, _, _, e⟩ := boxN_mem.mp (hp.mem_iff.mp hk)
  rw [← e]
  exact keyL_lt _ _ _
/-! ### the least and the greatest key -/
theorem z_one {A B : Nat} (h1 : A < B) (h2 : B < 2) : A = 0 ∧ B = 1 := ⟨by omega, by omega⟩
theorem key_mono : ∀ (l : List Bool) {x y x' y' : Nat}, x ≤ x' → y ≤ y' → x' < 2 ^ nx l → y' < 2 ^ ny l → keyL l x y ≤ keyL l x' y'
  | [], _, _, _, _, _, _, _, _ => Nat.le_refl _
  | true :: r, x, y, x', y', hx, hy, bx, by' => by
    rw [nx_t, Nat.pow_succ] at bx
    rw [ny_t] at by'
    have p := two_pos (nx r)
    have e1 := Nat.div_add_mod x (2 ^ nx r)
    have e2 := Nat.div_add_mod x' (2 ^ nx r)
    have m1 := Nat.mod_lt x p
    have m2 := Nat.mod_lt x' p
    have d1 : x / 2 ^ nx r ≤ x' / 2 ^ nx r := Nat.div_le_div_right hx
    have d2 : x' / 2 ^ nx r < 2 := Nat.div_lt_of_lt_mul bx
    show x / 2 ^ nx r % 2 * 2 ^ r.length + keyL r x y ≤ x' / 2 ^ nx r % 2 * 2 ^ r.length + keyL r x' y'
    rw [Nat.mod_eq_of_lt d2, Nat.mod_eq_of_lt (show x / 2 ^ nx r < 2 by omega)]
    have q := keyL_lt r x y
    rcases Nat.lt_or_ge (x / 2 ^ nx r) (x' / 2 ^ nx r) with z | z
    · obtain ⟨w1, w2⟩ := z_one z d2
      rw [w1, w2]
      omega
    · have z' : x / 2 ^ nx r = x' / 2 ^ nx r := by omega
      rw [z'] at e1 ⊢
      have := key_mono r (x := x % 2 ^ nx r) (y := y) (x' := x' % 2 ^ nx r) (y' := y') (by omega) hy m2 by'
      have k1 : keyL r (x % 2 ^ nx r) y = keyL r x y := by
        have := keyL_x r (x / 2 ^ nx r) (x % 2 ^ nx r) y (nx r) (Nat.le_refl _)
        rw [Nat.mul_comm, Nat.div_add_mod] at this
        exact this.symm
      have k2 : keyL r (x' % 2 ^ nx r) y' = keyL r x' y' := by
        have := keyL_x r (x' / 2 ^ nx r) (x' % 2 ^ nx r) y' (nx r) (Nat.le_refl _)
        rw [Nat.mul_comm, Nat.div_add_mod] at this
        exact this.symm
      omega
  | false :: r, x, y, x', y', hx, hy, bx, by' => by
    rw [ny_f, Nat.pow_succ] at by'
    rw [nx_f] at bx
    have p := two_pos (ny r)
    have e1 := Nat.div_add_mod y (2 ^ ny r)
    have e2 := Nat.div_add_mod y' (2 ^ ny r)
    have m1 := Nat.mod_lt y p
    have m2 := Nat.mod_lt y' p
    have d1 : y / 2 ^ ny r ≤ y' / 2 ^ ny r := Nat.div_le_div_right hy
    have d2 : y' / 2 ^ ny r < 2 := Nat.div_lt_of_lt_mul by'
    show y / 2 ^ ny r % 2 * 2 ^ r.length + keyL r x y ≤ y' / 2 ^ ny r % 2 * 2 ^ r.length + keyL r x' y'
    rw [Nat.mod_eq_of_lt d2, Nat.mod_eq_of_lt (show y / 2 ^ ny r < 2 by omega)]
    have q := keyL_lt r x y
    rcases Nat.lt_or_ge (y / 2 ^ ny r) (y' / 2 ^ ny r) with z | z
    · obtain ⟨w1, w2⟩ := z_one z d2
      rw [w1, w2]
      omega
    · have z' : y / 2 ^ ny r = y' / 2 ^ ny r := by omega
      rw [z'] at e1 ⊢
      have := key_mono r (x := x) (y := y % 2 ^ ny r) (x' := x') (y' := y' % 2 ^ ny r) hx (by omega) bx m2
      have k1 : keyL r x (y % 2 ^ ny r) = keyL r x y := by
        have := keyL_y r (y / 2 ^ ny r) x (y % 2 ^ ny r) (ny r) (Nat.le_refl _)
        rw [Nat.mul_comm, Nat.div_add_mod] at this
        exact this.symm
      have k2 : keyL r x' (y' % 2 ^ ny r) = keyL r x' y' := by
        have := keyL_y r (y' / 2 ^ ny r) x' (y' % 2 ^ ny r) (ny r) (Nat.le_refl _)
        rw [Nat.mul_comm, Nat.div_add_mod] at this
        exact this.symm
      omega
theorem least_key {l : List Bool} {x1 y1 x2 y2 : Nat} (b : Bx l x1 y1 x2 y2) {ks : List Nat} (hs : ks.Pairwise (· < ·)) (hp : ks.Perm (boxN l x1 y1 (x2 + 1 - x1) (y2 + 1 - y1))) : ks[0]? = some (keyL l x1 y1) := by
  obtain ⟨b1, b2, b3, b4⟩ := b
  have hm : keyL l x1 y1 ∈ ks := hp.mem_iff.mpr (boxN_mem.mpr ⟨0, 0, by omega, by omega, rfl⟩)
  cases ks with
  | nil => exact absurd hm List.not_mem_nil
  | cons a r =>
    obtain ⟨u, v, hu, hv, e⟩ := boxN_mem.mp (hp.mem_iff.mp List.mem_cons_self)
    have le := key_mono l (x := x1) (y := y1) (x' := x1 + u) (y' := y1 + v) (by omega) (by omega) (by omega) (by omega)
    rcases List.mem_cons.mp hm with z | z
    · rw [z]
      rfl
    · have := (List.pairwise_cons.mp hs).1 _ z
      omega
theorem last_max : ∀ (ks : List Nat) {m : Nat}, ks.Pairwise (· < ·) → m ∈ ks → (∀ k ∈ ks, k ≤ m) → ks[ks.length - 1]? = some m
  | [a], m, _, hm, _ => by
    rw [List.mem_singleton.mp hm]
    rfl
  | a :: b :: r, m, hs, hm, hle => by
    obtain ⟨h1, h2⟩ := List.pairwise_cons.mp hs
    have hb := hle b (List.mem_cons_of_mem _ List.mem_cons_self)
    have hab := h1 b List.mem_cons_self
    have hm2 : m ∈ b :: r := by
      rcases List.mem_cons.mp hm with z | z
      · omega
      · exact z
    exact last_max (b :: r) h2 hm2 fun k hk => hle k (List.mem_cons_of_mem _ hk)
theorem great_key {l : List Bool} {x1 y1 x2 y2 : Nat} (b : Bx l x1 y1 x2 y2) {ks : List Nat} (hs : ks.Pairwise (· < ·)) (hp : ks.Perm (boxN l x1 y1 (x2 + 1 - x1) (y2 + 1 - y1))) : ks[ks.length - 1]? = some (keyL l x2 y2) := by
  obtain ⟨b1, b2, b3, b4⟩ := b
  refine last_max ks hs (hp.mem_iff.mpr (boxN_mem.mpr ⟨x2 - x1, y2 - y1, by omega, by omega, by rw [show x1 + (x2 - x1) = x2 by omega, show y1 + (y2 - y1) = y2 by omega]⟩)) fun k hk => ?_
  obtain ⟨u, v, hu, hv, e⟩ := boxN_mem.mp (hp.mem_iff.mp hk)
  rw [← e]
  exact key_mono l (by omega) (by omega) b3 b4
/-! ### the whole grid -/
theorem adj_range (p : Nat → Bool) (hp : ∀ k, p k = true) : ∀ n a : Nat, adj p (List.range' a (n + 1)) = n
  | 0, _ => rfl
  | n + 1, a => by
    have ih := adj_range p hp n (a + 1)
    show (if decide (a + 1 = a + 1) && p (a + 1) then 1 else 0) + adj p (List.range' (a + 1) (n + 1)) = n + 1
    rw [ih, hp]
    simp
    omega
theorem whole_perm (l : List Bool) : (List.range' 0 (2 ^ l.length)).Perm (boxN l 0 0 (2 ^ nx l - 1 + 1 - 0) (2 ^ ny l - 1 + 1 - 0)) := by
  have px := two_pos (nx l)
  have py := two_pos (ny l)
  refine (List.perm_ext_iff_of_nodup List.nodup_range' (boxN_nodup (by omega) _ (by omega))).mpr fun K => ?_
  rw [boxN_mem]
  constructor
  · intro hK
    have hlt : K < 2 ^ l.length := by
      have := List.mem_range'.mp hK
      obtain ⟨i, h1, h2⟩ := this
      omega
    refine ⟨xOf l K, yOf l K, by have := xOf_lt l K; omega, by have := yOf_lt l K; omega, ?_⟩
    rw [Nat.zero_add, Nat.zero_add, keyL_cell, Nat.mod_eq_of_lt hlt]
  · rintro ⟨u, v, _, _, e⟩
    rw [← e]
    exact List.mem_range'.mpr ⟨keyL l (0 + u) (0 + v), keyL_lt l _ _, by omega⟩
theorem whole_box (l : List Bool) : Bx l 0 0 (2 ^ nx l - 1) (2 ^ ny l - 1) := by
  have px := two_pos (nx l)
  have py := two_pos (ny l)
  exact ⟨by omega, by omega, by omega, by omega⟩
theorem whole_runs (l : List Bool) : (((2 ^ nx l - 1 + 1 - 0) * (2 ^ ny l - 1 + 1 - 0) : Nat) : Int) - (savL l 0 0 (2 ^ nx l - 1) (2 ^ ny l - 1)).sum = 1 := by
  have hp := whole_perm l
  have hs : (List.range' 0 (2 ^ l.length)).Pairwise (· < ·) := List.pairwise_lt_range'
  have px := two_pos (nx l)
  have py := two_pos (ny l)
  have pl := two_pos l.length
  rw [sav_sum (whole_box l) hs hp]
  obtain ⟨m, hm⟩ : ∃ m, 2 ^ l.length = m + 1 := ⟨2 ^ l.length - 1, by omega⟩
  rw [hm, adj_range _ (fun _ => rfl)]
  have : (2 ^ nx l - 1 + 1 - 0) * (2 ^ ny l - 1 + 1 - 0) = m + 1 := by
    rw [show 2 ^ nx l - 1 + 1 - 0 = 2 ^ nx l by omega, show 2 ^ ny l - 1 + 1 - 0 = 2 ^ ny l by omega, ← Nat.pow_add, nxy, hm]
  rw [this]
  omega
/-! ### stretches -/
theorem adj_all_take {ks : List Nat} {i a b : Nat} (ha : ks[i]? = some a) (hb : ks[i + 1]? = some b) : adj (fun _ => true) (ks.take (i + 2)) = adj (fun _ => true) (ks.take (i + 1)) + (if b = a + 1 then 1 else 0) := by
  rw [adj_take _ ha hb]
  simp
theorem shaped_pairs (ps : List (Int × Int)) (h : ∀ p ∈ ps, p.1.natAbs < 2 ^ 1000 ∧ p.2.natAbs < 2 ^ 1000) : SeqAt.shaped (.list (ps.map fun p => .tuple [.int p.1, .int p.2])) = true := by
  have key : ∀ ps : List (Int × Int), (∀ p ∈ ps, p.1.natAbs < 2 ^ 1000 ∧ p.2.natAbs < 2 ^ 1000) → PyData.canLayAll0 (ps.map fun p => .tuple [.int p.1, .int p.2]) = true ∧ PyData.depthAll (ps.map fun p => .tuple [.int p.1, .int p.2]) ≤ 1 := by
    intro ps
    induction ps with
    | nil =>
      intro _
      simp [PyData.canLayAll0, PyData.depthAll]
    | cons p r ih =>
      intro h
      obtain ⟨i1, i2⟩ := ih fun q hq => h q (List.mem_cons_of_mem _ hq)
      have hs := shaped_tup (ds := [.int p.1, .int p.2]) (allc (h p List.mem_cons_self).1 (all1 (h p List.mem_cons_self).2))
      unfold SeqAt.shaped at hs
      have hc := (Bool.and_eq_true_iff.mp hs).1
      constructor
      · rw [List.map_cons]
        simp only [PyData.canLayAll0, hc, i1, Bool.and_self]
      · rw [List.map_cons]
        simp only [PyData.depthAll, PyData.depth]
        omega
  obtain ⟨k1, k2⟩ := key ps h
  unfold SeqAt.shaped
  rw [Bool.and_eq_true]
  refine ⟨by simpa only [PyData.canLay0] using k1, decide_eq_true ?_⟩
  simp only [PyData.depth]
  omega
/-! ### pairs as they stand -/
def TupsAt (H : Hp) : List Addr → List (Int × Int) → Prop
  | [], [] => True
  | t :: ts, p :: ps => H t = some (.tup [.int p.1, .int p.2]) ∧ TupsAt H ts ps
  | _, _ => False
theorem TupsAt.imp {H H' : Hp} (e : ∀ t a b, H t = some (.tup [.int a, .int b]) → H' t = some (.tup [.int a, .int b])) : ∀ {ts : List Addr} {ps : List (Int × Int)}, TupsAt H ts ps → TupsAt H' ts ps
  | [], [], _ => True.intro
  | t :: ts, p :: ps, h => ⟨e _ _ _ h.1, TupsAt.imp e h.2⟩
  | [], _ :: _, h => h.elim
  | _ :: _, [], h => h.elim
theorem TupsAt.snoc {H : Hp} {t : Addr} {p : Int × Int} (ht : H t = some (.tup [.int p.1, .int p.2])) : ∀ {ts : List Addr} {ps : List (Int × Int)}, TupsAt H ts ps → TupsAt H (ts ++ [t]) (ps ++ [p])
  | [], [], _ => ⟨ht, True.intro⟩
  | _ :: _, _ :: _, h => ⟨h.1, TupsAt.snoc ht h.2⟩
  | [], _ :: _, h => h.elim
  | _ :: _, [], h => h.elim
theorem TupsAt.len {H : Hp} : ∀ {ts : List Addr} {ps : List (Int × Int)}, TupsAt H ts ps → ts.length = ps.length
  | [], [], _ => rfl
  | _ :: _, _ :: _, h => congrArg (· + 1) (TupsAt.len h.2)
  | [], _ :: _, h => h.elim
  | _ :: _, [], h => h.elim
theorem TupsAt.dp {K : PySem.W.Frag} {H : Hp} : ∀ {ts : List Addr} {ps : List (Int × Int)}, TupsAt H ts ps → DpAll K H (ts.map V.ref) (ps.map fun p => .tuple [.int p.1, .int p.2])
  | [], [], _ => .nil
  | _ :: _, _ :: _, h => .cons (Dp.tup (SqT.of h.1) (.cons (.int _) (.cons (.int _) .nil))) (TupsAt.dp h.2)
  | [], _ :: _, h => h.elim
  | _ :: _, [], h => h.elim
theorem ix_last {n : Nat} : ixN (n + 1) (-1) = some n := by
  unfold ixN
  rw [if_neg (by decide), if_pos (by omega)]
  congr 1
  omega
theorem at_last {xs : List V} {v : V} : atI (xs ++ [v]) (-1) = some v := by
  unfold atI
  rw [List.length_append, List.length_singleton, ix_last]
  show (xs ++ [v])[xs.length]? = some v
  simp
theorem set_last {xs : List V} {v w : V} : (xs ++ [v]).set xs.length w = xs ++ [w] := by
  rw [List.set_append_right _ _ (Nat.le_refl _), Nat.sub_self]
  rfl
theorem eqv_nil {ps : List (Int × Int)} {p : Int × Int} : PyData.eqv (.list ((ps ++ [p]).map fun p => .tuple [.int p.1, .int p.2])) (.list []) = false := by
  cases ps with
  | nil => simp [PyData.eqv, PyData.eqvAll]
  | cons q r => simp [PyData.eqv, PyData.eqvAll]
end Lk

set_option Elab.async false
set_option linter.all false
set_option maxRecDepth 100000
set_option maxHeartbeats 4000000
namespace Lk
open PySem PySem.Spec PyProof.Rows L2
/-! ### ranks and listed keys -/
theorem boxN_cntB (l : List Bool) (Q : Nat → Bool) (x1 y1 h : Nat) : ∀ w, (boxN l x1 y1 w h).countP Q = cntB (fun x y => Q (keyL l x y)) x1 y1 w h
  | 0 => rfl
  | w + 1 => by
    rw [boxN_succ, List.countP_append, boxN_cntB l Q x1 y1 h w, List.countP_map]
    rfl
/-- the keys of a box, row by row -/
def boxR (l : List Bool) (x1 y1 w h : Nat) : List Nat := (List.range h).flatMap fun b => (List.range w).map fun a => keyL l (x1 + a) (y1 + b)
theorem boxR_succ (l : List Bool) (x1 y1 w h : Nat) : boxR l x1 y1 w (h + 1) = boxR l x1 y1 w h ++ (List.range w).map fun a => keyL l (x1 + a) (y1 + h) := by
  unfold boxR
  rw [List.range_succ, List.flatMap_append, List.flatMap_singleton]
theorem boxR_len (l : List Bool) (x1 y1 w : Nat) : ∀ h, (boxR l x1 y1 w h).length = h * w
  | 0 => by rw [Nat.zero_mul]; rfl
  | h + 1 => by rw [boxR_succ, List.length_append, boxR_len l x1 y1 w h, List.length_map, List.length_range, Nat.succ_mul]
theorem boxR_mem {l : List Bool} {x1 y1 w h K : Nat} : K ∈ boxR l x1 y1 w h ↔ ∃ a b, a < w ∧ b < h ∧ keyL l (x1 + a) (y1 + b) = K := by
  unfold boxR
  rw [List.mem_flatMap]
  constructor
  · rintro ⟨b, hb, h2⟩
    obtain ⟨a, ha, e⟩ := List.mem_map.mp h2
    exact ⟨a, b, List.mem_range.mp ha, List.mem_range.mp hb, e⟩
  · rintro ⟨a, b, ha, hb, e⟩
    exact ⟨b, List.mem_range.mpr hb, List.mem_map.mpr ⟨a, List.mem_range.mpr ha, e⟩⟩
theorem boxR_nodup {l : List Bool} {x1 y1 w : Nat} (hx : x1 + w ≤ 2 ^ nx l) : ∀ h, y1 + h ≤ 2 ^ ny l → (boxR l x1 y1 w h).Nodup
  | 0, _ => List.nodup_nil
  | h + 1, hy => by
    rw [boxR_succ]
    refine List.nodup_append.mpr ⟨boxR_nodup hx h (by omega), ?_, ?_⟩
    · refine List.pairwise_map.mpr (List.Pairwise.imp_of_mem (R := (· ≠ ·)) (fun {a b} ha hb hne e => ?_) List.nodup_range)
      have ha := List.mem_range.mp ha
      have hb := List.mem_range.mp hb
      have := (key_inj (l := l) (x := x1 + a) (y := y1 + h) (x' := x1 + b) (y' := y1 + h) (by omega) (by omega) (by omega) (by omega) e).1
      omega
    · intro a ha b hb e
      obtain ⟨c, d, hc, hd, e1⟩ := boxR_mem.mp ha
      obtain ⟨f, hf, e2⟩ := List.mem_map.mp hb
      have hf := List.mem_range.mp hf
      have := (key_inj (l := l) (x := x1 + c) (y := y1 + d) (x' := x1 + f) (y' := y1 + h) (by omega) (by omega) (by omega) (by omega) (by rw [e1, e2, e])).2
      omega
theorem boxR_perm {l : List Bool} {x1 y1 w h : Nat} (hx : x1 + w ≤ 2 ^ nx l) (hy : y1 + h ≤ 2 ^ ny l) : (boxR l x1 y1 w h).Perm (boxN l x1 y1 w h) := by
  refine (List.perm_ext_iff_of_nodup (boxR_nodup hx h hy) (boxN_nodup hy w hx)).mpr fun K => ?_
  rw [boxR_mem, boxN_mem]
/-- the sorted keys of a box -/
def Sorts (l : List Bool) (x1 y1 x2 y2 : Nat) (ks : List Nat) : Prop := ks.Pairwise (· < ·) ∧ ks.Perm (boxN l x1 y1 (x2 + 1 - x1) (y2 + 1 - y1))
theorem Sorts.len {l : List Bool} {x1 y1 x2 y2 : Nat} {ks : List Nat} (h : Sorts l x1 y1 x2 y2 ks) : ks.length = (x2 + 1 - x1) * (y2 + 1 - y1) := by rw [h.2.length_eq, boxN_len]
theorem Sorts.lt {l : List Bool} {x1 y1 x2 y2 : Nat} {ks : List Nat} (h : Sorts l x1 y1 x2 y2 ks) : ∀ k ∈ ks, k < 2 ^ l.length := fun k hk => by
  obtain ⟨u, v, _, _, e⟩ := boxN_mem.mp (h.2.mem_iff.mp hk)
  rw [← e]
  exact keyL_lt l _ _
theorem Sorts.mem {l : List Bool} {x1 y1 x2 y2 : Nat} {ks : List Nat} (h : Sorts l x1 y1 x2 y2 ks) (b : Bx l x1 y1 x2 y2) {K : Nat} : K ∈ ks ↔ keyIn l (some (x1, y1, x2, y2)) K := by
  obtain ⟨b1, b2, _, _⟩ := b
  rw [h.2.mem_iff, boxN_mem]
  constructor
  · rintro ⟨u, v, hu, hv, e⟩
    exact ⟨_, x1 + u, y1 + v, rfl, by simp only; omega, by simp only; omega, by simp only; omega, by simp only; omega, e⟩
  · rintro ⟨p, x, y, e, h1, h2, h3, h4, ek⟩
    cases e
    simp only at h1 h2 h3 h4
    exact ⟨x - x1, y - y1, by omega, by omega, by rw [show x1 + (x - x1) = x by omega, show y1 + (y - y1) = y by omega]; exact ek⟩
def lessN (ks : List Nat) (k : Nat) : Nat := ks.countP fun K => decide (K < k)
theorem Sorts.less {l : List Bool} {x1 y1 x2 y2 : Nat} {ks : List Nat} (h : Sorts l x1 y1 x2 y2 ks) (k : Nat) : lessO l (some (x1, y1, x2, y2)) k = lessN ks k := by
  unfold lessN
  rw [h.2.countP_eq, boxN_cntB]
  rfl
theorem less_get : ∀ {ks : List Nat} {s k : Nat}, ks.Pairwise (· < ·) → ks[s]? = some k → lessN ks k = s
  | [], _, _, _, h => by simp at h
  | a :: r, 0, k, hp, h => by
    have e : a = k := Option.some.inj h
    subst e
    obtain ⟨h1, _⟩ := List.pairwise_cons.mp hp
    unfold lessN
    rw [List.countP_cons, if_neg (by simp), List.countP_eq_zero.mpr (fun b hb => by have := h1 b hb; simp; omega)]
  | a :: r, s + 1, k, hp, h => by
    obtain ⟨h1, h2⟩ := List.pairwise_cons.mp hp
    have hk : k ∈ r := List.mem_of_getElem? h
    have ih := less_get h2 h
    unfold lessN at ih ⊢
    rw [List.countP_cons, ih, if_pos (by have := h1 k hk; simpa using this)]
theorem less_mem {ks : List Nat} {k : Nat} (hp : ks.Pairwise (· < ·)) (h : k ∈ ks) : ks[lessN ks k]? = some k := by
  obtain ⟨s, hs⟩ := List.getElem?_of_mem h
  rw [less_get hp hs]
  exact hs
theorem lessN_le (ks : List Nat) (k : Nat) : lessN ks k ≤ ks.length := List.countP_le_length
theorem lessN_zero (ks : List Nat) : lessN ks 0 = 0 := List.countP_eq_zero.mpr fun _ _ => by simp
theorem lessN_all {ks : List Nat} {k : Nat} (h : ∀ K ∈ ks, K < k) : lessN ks k = ks.length := List.countP_eq_length.mpr fun K hK => decide_eq_true (h K hK)
theorem less_step : ∀ {ks : List Nat} {k : Nat}, ks.Pairwise (· < ·) → lessN ks (k + 1) = lessN ks k + (if ks[lessN ks k]? = some k then 1 else 0)
  | [], k, _ => by simp [lessN]
  | a :: r, k, hp => by
    obtain ⟨h1, h2⟩ := List.pairwise_cons.mp hp
    have ih := less_step (k := k) h2
    unfold lessN at ih ⊢
    rw [List.countP_cons, List.countP_cons]
    by_cases c : a < k
    · rw [if_pos (by simp; omega), if_pos (by simp; omega), ih, List.getElem?_cons_succ]
      omega
    · have z : r.countP (fun K => decide (K < k)) = 0 := List.countP_eq_zero.mpr fun b hb => by have := h1 b hb; simp; omega
      have z1 : r.countP (fun K => decide (K < k + 1)) = 0 := List.countP_eq_zero.mpr fun b hb => by have := h1 b hb; simp; omega
      rw [z, z1]
      by_cases d : a = k
      · subst d
        rw [if_pos (by simp), if_neg (by simp)]
        simp
      · rw [if_neg (by simp; omega), if_neg (by simp; omega)]
        simp [d]
end Lk

set_option linter.all false
namespace Lk
/-! ### the law's own draws: the turn comes at which a wanted digit is drawn -/
def mixF (c t : Int) : Int := (c % 2147483629 * 48271 + t * 69621 + 12345) % 2147483647
def mixS (c t : Int) : Int := (mixF c t * mixF c t + t * 40692) % 2147483587
def mixD (c t : Int) : Int := (mixF c t * 2147483587 + mixS c t) / 32
theorem crt1 (A : Int) : (A + 139242 * (((2147483647 - A % 2147483647) * 369758553) % 2147483647)) % 2147483647 = 0 := by omega
theorem crt2 (B g : Int) (h : 0 ≤ g) (h2 : g < 100) : (B + 81384 * (((g + 2147483587 - B % 2147483587) * 463066321) % 2147483587)) % 2147483587 = g := by omega
theorem crt3 (k1 k2 : Int) : (k1 + 2147483647 * (((k2 - k1) * 608453683) % 2147483587)) % 2147483587 = k2 % 2147483587 := by omega
theorem crt4 (A k1 m : Int) (h : (A + 139242 * k1) % 2147483647 = 0) : (A + 139242 * (k1 + 2147483647 * m)) % 2147483647 = 0 := by omega
theorem crt5 (B k k2 g : Int) (h : (B + 81384 * k2) % 2147483587 = g) (e : k % 2147483587 = k2 % 2147483587) : (B + 81384 * k) % 2147483587 = g := by omega
theorem crt_all (A B : Int) (g : Nat) (hg : g < 2) : ∃ k : Nat, k < 4611685889393295289 ∧ (A + 139242 * (k : Int)) % 2147483647 = 0 ∧ (B + 81384 * (k : Int)) % 2147483587 = 32 * (g : Int) := by
  obtain ⟨k1, e1⟩ : ∃ k1, k1 = ((2147483647 - A % 2147483647) * 369758553) % 2147483647 := ⟨_, rfl⟩
  obtain ⟨k2, e2⟩ : ∃ k2, k2 = ((32 * (g : Int) + 2147483587 - B % 2147483587) * 463066321) % 2147483587 := ⟨_, rfl⟩
  obtain ⟨m, e3⟩ : ∃ m, m = ((k2 - k1) * 608453683) % 2147483587 := ⟨_, rfl⟩
  have h1 : (A + 139242 * k1) % 2147483647 = 0 := by rw [e1]; exact crt1 A
  have h2 : (B + 81384 * k2) % 2147483587 = 32 * (g : Int) := by rw [e2]; exact crt2 B (32 * g) (by omega) (by omega)
  have h3 : (k1 + 2147483647 * m) % 2147483587 = k2 % 2147483587 := by rw [e3]; exact crt3 k1 k2
  have h4 := crt4 A k1 m h1
  have h5 := crt5 B (k1 + 2147483647 * m) k2 _ h2 h3
  have b1 : 0 ≤ k1 ∧ k1 < 2147483647 := by rw [e1]; exact ⟨Int.emod_nonneg _ (by decide), Int.emod_lt_of_pos _ (by decide)⟩
  have b2 : 0 ≤ m ∧ m < 2147483587 := by rw [e3]; exact ⟨Int.emod_nonneg _ (by decide), Int.emod_lt_of_pos _ (by decide)⟩
  clear e1 e2 e3 h1 h2 h3
  obtain ⟨k, ek⟩ : ∃ k, k = k1 + 2147483647 * m := ⟨_, rfl⟩
  rw [← ek] at h4 h5
  have bk : 0 ≤ k ∧ k < 4611685889393295289 := by omega
  have e : ((k.toNat : Nat) : Int) = k := by omega
  exact ⟨k.toNat, by omega, by rw [e]; exact h4, by rw [e]; exact h5⟩
theorem turn_ex (c t : Int) (g : Nat) (hg : g < 2) : ∃ k : Nat, k < 4611685889393295289 ∧ mixD c (t + 2 * (k : Int)) % 2 = (g : Int) := by
  obtain ⟨k, hk, h4, h5⟩ := crt_all (c % 2147483629 * 48271 + t * 69621 + 12345) (t * 40692) g hg
  refine ⟨k, hk, ?_⟩
  have f0 : mixF c (t + 2 * (k : Int)) = 0 := by
    unfold mixF
    have e : c % 2147483629 * 48271 + (t + 2 * (k : Int)) * 69621 + 12345 = (c % 2147483629 * 48271 + t * 69621 + 12345) + 139242 * (k : Int) := by
      generalize c % 2147483629 = z
      omega
    rw [e]
    exact h4
  have s0 : mixS c (t + 2 * (k : Int)) = 32 * (g : Int) := by
    unfold mixS
    rw [f0]
    have e : (0 : Int) * 0 + (t + 2 * (k : Int)) * 40692 = (t * 40692) + 81384 * (k : Int) := by clear f0 h4 h5; omega
    rw [e]
    exact h5
  unfold mixD
  rw [f0, s0]
  clear f0 s0 h4 h5
  rw [Int.zero_mul, Int.zero_add]
  omega
end Lk

set_option Elab.async false
set_option linter.all false
set_option maxRecDepth 100000
set_option maxHeartbeats 4000000
namespace Lk
open PySem PySem.Spec PyProof.Rows L2
/-! ### the bag of the draws -/
def BagX (H : Hp) (r : Addr) (a c k : Int) : Prop := H r = some (.lst [.int a, .int c, .int k])
def Bag (H : Hp) (r : Addr) : Prop := ∃ a c k : Int, BagX H r a c k ∧ 0 ≤ a
theorem Bag.same {H H' : Hp} {r : Addr} (e : Same H H') (h : Bag H r) : Bag H' r := by
  obtain ⟨a, c, k, h1, h2⟩ := h
  exact ⟨a, c, k, e _ _ h1, h2⟩
theorem Bag.ne {H : Hp} {r p : Addr} (h : Bag H r) (hp : H p = none) : p ≠ r := fun z => by
  obtain ⟨_, _, _, e, _⟩ := h
  rw [z, e] at hp
  cases hp
theorem Bag.mut {r D : Addr} {H : Hp} {o : HO} (R : Bag H r) (h : D ≠ r) : Bag (upd H D o) r := by
  obtain ⟨a, c, k, h1, h2⟩ := R
  exact ⟨a, c, k, by unfold BagX; rw [upd_ne h.symm]; exact h1, h2⟩
/-- what a pick gives -/
def pickV (a c k : Int) (many : Nat) : Int :=
  if 0 < a then a.fmod many else (if (many : Int) > 1000000000000000 then mixD c (k + 1) ^ 8 + mixS c (k + 1) else mixD c (k + 1)).fmod many
theorem mixF_b (c t : Int) : 0 ≤ mixF c t ∧ mixF c t < 2147483647 := ⟨Int.emod_nonneg _ (by decide), Int.emod_lt_of_pos _ (by decide)⟩
theorem mixS_b (c t : Int) : 0 ≤ mixS c t ∧ mixS c t < 2147483587 := ⟨Int.emod_nonneg _ (by decide), Int.emod_lt_of_pos _ (by decide)⟩
theorem mixD_b (c t : Int) : 0 ≤ mixD c t ∧ mixD c t < 288230376151711744 := by
  have h1 := mixF_b c t
  have h2 := mixS_b c t
  unfold mixD
  omega
def gw (u : Nat) : Nat := if u = 0 then 1 else 0
theorem gw_lt (u : Nat) : gw u < 2 := by unfold gw; split <;> omega
theorem pick2 (c k : Int) : pickV 0 c k 2 = mixD c (k + 1) % 2 := by
  unfold pickV
  rw [if_neg (by decide), if_neg (by decide), Int.fmod_eq_emod_of_nonneg _ (by decide)]
  rfl
/-- how far it is to the wanted turn -/
def Far (a c k : Int) (u : Nat) (j : Nat) : Prop := j ≤ 4611685889393295289 ∧ (a = 0 → mixD c (k + 1 + 2 * (j : Int)) % 2 = (gw u : Int)) ∧ (0 < a → j = 4611685889393295289)
theorem far_ex (a c k : Int) (u : Nat) (ha : 0 ≤ a) : ∃ j, Far a c k u j ∧ (a = 0 → j < 4611685889393295289) := by
  by_cases h : a = 0
  · obtain ⟨j, hj, e⟩ := turn_ex c (k + 1) (gw u) (gw_lt u)
    exact ⟨j, ⟨by omega, fun _ => e, fun z => by omega⟩, fun _ => hj⟩
  · exact ⟨4611685889393295289, ⟨Nat.le_refl _, fun z => absurd z h, fun _ => rfl⟩, fun z => absurd z h⟩
/-- an unlucky turn brings it nearer -/
theorem far_step {a c k : Int} {u v sp j : Nat} (ha : 0 ≤ a) (F : Far a c k u j) (hs : (sp : Int) = pickV a c k 2) (hsp : sp < 2) (hz : pick u v sp = 0) (huv : 1 ≤ u + v) :
    ∃ j', Far (a / 2 / 60) c (k + 1 + 1) u j' ∧ (a / 2 / 60).toNat + j' < a.toNat + j := by
  obtain ⟨h1, h2, h3⟩ := F
  by_cases h : a = 0
  · subst h
    have h2 := h2 rfl
    rw [pick2] at hs
    have hg : sp ≠ gw u := by
      unfold gw
      unfold pick at hz
      intro e
      split at e <;> split at hz <;> omega
    have hj : j ≠ 0 := by
      intro e
      subst e
      rw [Int.natCast_zero, Int.mul_zero, Int.add_zero, ← hs] at h2
      omega
    refine ⟨j - 1, ⟨by omega, fun _ => ?_, fun z => absurd z (by decide)⟩, ?_⟩
    · rw [show k + 1 + 1 + 1 + 2 * ((j - 1 : Nat) : Int) = k + 1 + 2 * (j : Int) by omega]
      exact h2
    · rw [show (0 : Int) / 2 / 60 = 0 by decide]
      omega
  · have h3 := h3 (by omega)
    obtain ⟨j', F', hj'⟩ := far_ex (a / 2 / 60) c (k + 1 + 1) u (by omega)
    refine ⟨j', F', ?_⟩
    have := F'.1
    omega
theorem far_more {a0 a c k : Int} {u S S' M : Nat} (h : S' + 1 ≤ S) (ha : 0 ≤ a) (h2 : a ≤ a0) : ∃ j, Far a c k u j ∧ S' * (a0.toNat + 4611685889393295289 + 3) + (a.toNat + j) < S * (a0.toNat + 4611685889393295289 + 3) + M := by
  obtain ⟨j, F, _⟩ := far_ex a c k u ha
  refine ⟨j, F, ?_⟩
  have h3 := Nat.mul_le_mul_right (a0.toNat + 4611685889393295289 + 3) h
  rw [Nat.add_mul, Nat.one_mul] at h3
  have := F.1
  omega
theorem pick_weak {H : Hp} {r : Addr} {many : Nat} {vs : List V} {R : Nat → Hp → Prop} (B : Bag H r) (hv : vs = [.ref r, .int (many : Int)]) (h1 : 1 ≤ many) (h2 : many < 2 ^ 1000) (q : ∀ (d : Nat) (H' : Hp), d < many → But r H H' → Bag H' r → R d H') :
    ∃ (r' : Addr) (a c k : Int) (many' : Nat), vs = [.ref r', .int many'] ∧ BagX H r' a c k ∧ 0 ≤ a ∧ 1 ≤ many' ∧ many' < 2 ^ 1000 ∧ ∀ (d : Nat) (H' : Hp), d < many' → (d : Int) = pickV a c k many' → But r' H H' → BagX H' r' (a / (many' : Int)) c (k + 1) → R d H' := by
  obtain ⟨a, c, k, hB, ha⟩ := B
  refine ⟨r, a, c, k, many, hv, hB, ha, h1, h2, fun d H' hd _ b hB' => q d H' hd b ⟨_, _, _, hB', Int.ediv_nonneg ha (by omega)⟩⟩
end Lk

set_option Elab.async false
set_option linter.all false
set_option maxRecDepth 100000
set_option maxHeartbeats 4000000
namespace Lk
open PySem PySem.Spec PyProof.Rows L2
theorem ix_tupK {X : Cx} {K : PySem.W.Frag} (h : X.K = K) : IxR X (rIxT K) := by
  subst h
  exact ix_tup
theorem ix_listK {X : Cx} {K : PySem.W.Frag} (h : X.K = K) : IxR X (rIxL K) := by
  subst h
  exact ix_list
theorem cshlN {a k : Nat} (ha : a < 2 ^ 1000) (hk : k ≤ 1000) : CShl (a : Int) (k : Int) := by
  refine ⟨by omega, ?_⟩
  have := intBits_le (a := (a : Int)) (k := 1000) (by rw [Int.natAbs_natCast]; exact ha)
  omega
/-! ### loops over a word -/
theorem for_word {l : List Bool} {g : TG} {tb : TS} {D : Ends} {σ : L2.St} {H : Hp} (Pv : Nat → L2.St → Hp → Prop) (h0 : Pv 0 σ H)
    (hs : ∀ i (hi : i < l.length) σ H, Pv i σ H → g (.str (lt l[i])) σ H fun σ2 H2 => tb { D with nx := Pv (i + 1), ct := Pv (i + 1), bk := D.nx } σ2 H2) (hd : ∀ σ H, Pv l.length σ H → D.nx σ H) :
    ∃ W : Nat → Nat → L2.St → Hp → Prop, (∃ m, W 0 m σ H) ∧ ∀ i m σ H, W i m σ H →
      ((Its (wS l)).stop i H ∧ D.nx σ H) ∨ ((Its (wS l)).go i H ∧ ∃ N : L2.St → Hp → Prop, (∀ σ' H', N σ' H' → ∃ m', m' < m ∧ W (i + 1) m' σ' H') ∧ ∀ x H', (Its (wS l)).yld i H x H' → g x σ H' fun σ2 H2 => tb { D with nx := N, ct := N, bk := D.nx } σ2 H2) := by
  refine ⟨fun i m σ H => m = l.length - i ∧ i ≤ l.length ∧ Pv i σ H, ⟨l.length, by simp, Nat.zero_le _, h0⟩, ?_⟩
  rintro i m σ H ⟨rfl, hi, p⟩
  by_cases hlt : i < l.length
  · refine .inr ⟨by show i < (wS l).cps.size; rw [wS_size]; exact hlt, Pv (i + 1), fun σ' H' p' => ⟨l.length - (i + 1), by omega, rfl, hlt, p'⟩, fun x H' y => ?_⟩
    obtain ⟨e, c, hc, rfl⟩ := y
    subst e
    rw [wS_at l i hlt] at hc
    cases hc
    exact hs i hlt σ _ p
  · have e : i = l.length := by omega
    subst e
    exact .inl ⟨by show (wS l).cps.size ≤ l.length; rw [wS_size]; exact Nat.le_refl _, hd σ H p⟩
theorem for_enumW {l : List Bool} {g : TG} {tb : TS} {D : Ends} {σ : L2.St} {H : Hp} (Pv : Nat → L2.St → Hp → Prop) (h0 : Pv 0 σ H)
    (hs : ∀ i (hi : i < l.length) σ H T, H T = none → Pv i σ H → g (.ref T) σ (upd H T (.tup [.int (i : Nat), .str (lt l[i])])) fun σ2 H2 => tb { D with nx := Pv (i + 1), ct := Pv (i + 1), bk := D.nx } σ2 H2) (hd : ∀ σ H, Pv l.length σ H → D.nx σ H) :
    ∃ W : Nat → Nat → L2.St → Hp → Prop, (∃ m, W 0 m σ H) ∧ ∀ i m σ H, W i m σ H →
      ((Itx (wS l)).stop i H ∧ D.nx σ H) ∨ ((Itx (wS l)).go i H ∧ ∃ N : L2.St → Hp → Prop, (∀ σ' H', N σ' H' → ∃ m', m' < m ∧ W (i + 1) m' σ' H') ∧ ∀ x H', (Itx (wS l)).yld i H x H' → g x σ H' fun σ2 H2 => tb { D with nx := N, ct := N, bk := D.nx } σ2 H2) := by
  refine ⟨fun i m σ H => m = l.length - i ∧ i ≤ l.length ∧ Pv i σ H, ⟨l.length, by simp, Nat.zero_le _, h0⟩, ?_⟩
  rintro i m σ H ⟨rfl, hi, p⟩
  by_cases hlt : i < l.length
  · refine .inr ⟨by show i < (wS l).cps.size; rw [wS_size]; exact hlt, Pv (i + 1), fun σ' H' p' => ⟨l.length - (i + 1), by omega, rfl, hlt, p'⟩, fun x H' y => ?_⟩
    obtain ⟨T, c, rfl, nT, hc, rfl⟩ := y
    rw [wS_at l i hlt] at hc
    cases hc
    exact hs i hlt σ _ T nT p
  · have e : i = l.length := by omega
    subst e
    exact .inl ⟨by show l.length = (wS l).cps.size; rw [wS_size], hd σ H p⟩
/-- over the feet of a word -/
theorem for_feet {K : PySem.W.Frag} {f : Addr} {ts : List Addr} {l : List Bool} {H2 : Hp} {g : TG} {tb : TS} {D : Ends} {σ : L2.St} (F : FeetAt H2 f ts (feetL l)) (Pv : Nat → L2.St → Hp → Prop) (hP : ∀ i σ H, Pv i σ H → Same H2 H) (h0 : Pv 0 σ H2)
    (hs : ∀ i (hi : i < l.length) t σ H, H t = some (.tup [.str (lt l[i]), .int (nx (l.drop (i + 1)) : Nat), .int (ny (l.drop (i + 1)) : Nat)]) → Pv i σ H → g (.ref t) σ H fun σ2 H2 => tb { D with nx := Pv (i + 1), ct := Pv (i + 1), bk := D.nx } σ2 H2) (hd : ∀ σ H, Pv l.length σ H → D.nx σ H) :
    ∃ W : Nat → Nat → L2.St → Hp → Prop, (∃ m, W 0 m σ H2) ∧ ∀ i m σ H, W i m σ H →
      ((Itl K f).stop i H ∧ D.nx σ H) ∨ ((Itl K f).go i H ∧ ∃ N : L2.St → Hp → Prop, (∀ σ' H', N σ' H' → ∃ m', m' < m ∧ W (i + 1) m' σ' H') ∧ ∀ x H', (Itl K f).yld i H x H' → g x σ H' fun σ2 H2 => tb { D with nx := N, ct := N, bk := D.nx } σ2 H2) := by
  have lenT : ts.length = l.length := F.2.1.trans (feetL_len l)
  refine for_list (K := K) (a := f) (xs := ts.map V.ref) Pv h0 (fun i σ H _ W => SqL.of (hP i σ H W _ _ F.1)) (fun i v σ H hv W => ?_) (fun σ H W => ?_)
  · obtain ⟨t, ht, rfl⟩ : ∃ t, ts[i]? = some t ∧ v = V.ref t := by
      rw [List.getElem?_map] at hv
      cases e : ts[i]? with
      | none => rw [e] at hv; cases hv
      | some t => rw [e] at hv; exact ⟨t, rfl, (Option.some.inj hv).symm⟩
    have hi : i < l.length := by rw [← lenT]; exact (List.getElem?_eq_some_iff.mp ht).1
    exact hs i hi t σ H (hP i σ H W _ _ (F.2.2 i t _ ht (feetL_get l i hi))) W
  · rw [List.length_map, lenT] at W
    exact hd σ H W
theorem nx_drop_le (l : List Bool) (i : Nat) : nx (l.drop i) ≤ nx l := by
  have := nx_app (l.take i) (l.drop i)
  rw [List.take_append_drop] at this
  omega
theorem ny_drop_le (l : List Bool) (i : Nat) : ny (l.drop i) ≤ ny l := by
  have := ny_app (l.take i) (l.drop i)
  rw [List.take_append_drop] at this
  omega
theorem len_drop1 (l : List Bool) {i : Nat} (h : i < l.length) : l.length - i = (l.drop (i + 1)).length + 1 := by
  rw [List.length_drop]
  omega
theorem drop_cons (l : List Bool) {i : Nat} (h : i < l.length) : l.drop i = l[i] :: l.drop (i + 1) := (List.getElem_cons_drop h).symm
end Lk

set_option Elab.async false
set_option linter.all false
set_option maxRecDepth 100000
set_option maxHeartbeats 4000000
namespace Lk
open PySem PySem.Spec PyProof.Rows L2
/-! ### parts as they stand -/
def PartAt (H : Hp) (v : V) : Option P4 → Prop
  | none => v = .non
  | some p => ∃ a, v = .ref a ∧ H a = some (.tup [.int (p.1 : Nat), .int (p.2.1 : Nat), .int (p.2.2.1 : Nat), .int (p.2.2.2 : Nat)])
theorem PartAt.same {H H' : Hp} {v : V} {o : Option P4} (e : Same H H') (h : PartAt H v o) : PartAt H' v o := by
  cases o with
  | none => exact h
  | some p =>
    obtain ⟨a, h1, h2⟩ := h
    exact ⟨a, h1, e _ _ h2⟩
theorem PartAt.non {H : Hp} {v : V} {o : Option P4} (h : PartAt H v o) : decide (v = .non) = o.isNone := by
  cases o with
  | none => exact decide_eq_true h
  | some p =>
    obtain ⟨a, rfl, h2⟩ := h
    exact decide_eq_false (by intro z; cases z)
theorem two_toNat (n : Nat) : (1 * 2 ^ (n : Int).toNat : Int) = ((2 ^ n : Nat) : Int) := by
  rw [Int.one_mul, Int.toNat_natCast, Int.natCast_pow]
  rfl
theorem less_next {b : Bool} {r : List Bool} {p : P4} (h : InBlk (b :: r) p) (k : Nat) :
    lessO (b :: r) (some p) (k % 2 ^ (b :: r).length) = if k / 2 ^ r.length % 2 = 1 then areaP (loP b (nx r) (ny r) p) + lessO r (hiP b (nx r) (ny r) p) (k % 2 ^ r.length) else lessO r (loP b (nx r) (ny r) p) (k % 2 ^ r.length) := by
  have e1 := top_bit (c := k / 2 ^ (r.length + 1)) (k := k % 2 ^ (r.length + 1)) r.length
  rw [Nat.mul_comm, Nat.div_add_mod] at e1
  have e2 : k % 2 ^ (r.length + 1) % 2 ^ r.length = k % 2 ^ r.length := Nat.mod_mod_of_dvd _ (Nat.pow_dvd_pow 2 (Nat.le_succ _))
  have e3 := less_halves h (k := k % 2 ^ (r.length + 1)) (Nat.mod_lt _ (two_pos _))
  rw [← e1, e2] at e3
  exact e3
end Lk

set_option Elab.async false
set_option linter.all false
set_option maxRecDepth 100000
set_option maxHeartbeats 4000000
namespace Lk
open PySem PySem.Spec PyProof.Rows L2
/-! ### any box: its keys in order, its runs -/
def sortB (l : List Bool) (x1 y1 x2 y2 : Nat) : List Nat := (List.range' 0 (2 ^ l.length)).filter fun k => (boxN l x1 y1 (x2 + 1 - x1) (y2 + 1 - y1)).contains k
theorem sortB_lt (l : List Bool) (x1 y1 x2 y2 : Nat) : (sortB l x1 y1 x2 y2).Pairwise (· < ·) := List.Pairwise.filter _ List.pairwise_lt_range'
theorem sortB_perm {l : List Bool} {x1 y1 x2 y2 : Nat} (b : Bx l x1 y1 x2 y2) : (sortB l x1 y1 x2 y2).Perm (boxN l x1 y1 (x2 + 1 - x1) (y2 + 1 - y1)) := by
  obtain ⟨b1, b2, b3, b4⟩ := b
  refine (List.perm_ext_iff_of_nodup (List.Pairwise.filter _ List.nodup_range') (boxN_nodup (by omega) _ (by omega))).mpr fun K => ?_
  rw [List.mem_filter, List.contains_iff_mem]
  constructor
  · exact fun h => h.2
  · intro h
    refine ⟨?_, h⟩
    obtain ⟨u, v, _, _, e⟩ := boxN_mem.mp h
    rw [← e]
    exact List.mem_range'.mpr ⟨_, keyL_lt l (x1 + u) (y1 + v), by omega⟩
def runsZ (l : List Bool) (x1 y1 x2 y2 : Nat) : Int := (((x2 + 1 - x1) * (y2 + 1 - y1) : Nat) : Int) - (savL l x1 y1 x2 y2).sum
theorem adj_lt (p : Nat → Bool) : ∀ ks : List Nat, ks ≠ [] → adj p ks < ks.length
  | [], h => absurd rfl h
  | [_], _ => Nat.zero_lt_one
  | a :: b :: r, _ => by
    have := adj_lt p (b :: r) (by simp)
    rw [adj_cons2, List.length_cons]
    split <;> omega
/-- how many cells of the box have a neighbour before them in the box -/
def nb (l : List Bool) (x1 y1 x2 y2 : Nat) : Nat := (boxN l x1 y1 (x2 + 1 - x1) (y2 + 1 - y1)).countP fun K => pred (boxN l x1 y1 (x2 + 1 - x1) (y2 + 1 - y1)) K
theorem nb_adj {l : List Bool} {x1 y1 x2 y2 : Nat} (b : Bx l x1 y1 x2 y2) : adj (fun _ => true) (sortB l x1 y1 x2 y2) = nb l x1 y1 x2 y2 := by
  rw [adj_count _ _ (sortB_lt l x1 y1 x2 y2), (sortB_perm b).countP_eq]
  unfold nb
  congr 1
  funext K
  rw [pred_perm (sortB_perm b), Bool.and_true]
theorem runs_nb {l : List Bool} {x1 y1 x2 y2 : Nat} (b : Bx l x1 y1 x2 y2) : runsZ l x1 y1 x2 y2 = (((x2 + 1 - x1) * (y2 + 1 - y1) : Nat) : Int) - ((nb l x1 y1 x2 y2 : Nat) : Int) := by
  unfold runsZ
  rw [sav_sum b (sortB_lt l x1 y1 x2 y2) (sortB_perm b), nb_adj b]
theorem runs_between {l : List Bool} {x1 y1 x2 y2 : Nat} (b : Bx l x1 y1 x2 y2) : 1 ≤ runsZ l x1 y1 x2 y2 ∧ runsZ l x1 y1 x2 y2 ≤ (((x2 + 1 - x1) * (y2 + 1 - y1) : Nat) : Int) := by
  rw [runs_nb b, ← nb_adj b]
  have hl : (sortB l x1 y1 x2 y2).length = (x2 + 1 - x1) * (y2 + 1 - y1) := by rw [(sortB_perm b).length_eq, boxN_len]
  have pos : 0 < (x2 + 1 - x1) * (y2 + 1 - y1) := Nat.mul_pos (by have := b.x; omega) (by have := b.y; omega)
  have := adj_lt (fun _ => true) (sortB l x1 y1 x2 y2) (fun z => by rw [z] at hl; simp at hl; omega)
  omega
/-! ### a box cut in two -/
theorem boxN_add (l : List Bool) (x1 y1 h a : Nat) : ∀ c, boxN l x1 y1 (a + c) h = boxN l x1 y1 a h ++ boxN l (x1 + a) y1 c h
  | 0 => by
    show boxN l x1 y1 a h = boxN l x1 y1 a h ++ []
    rw [List.append_nil]
  | c + 1 => by rw [← Nat.add_assoc, boxN_succ, boxN_add l x1 y1 h a c, boxN_succ, List.append_assoc, Nat.add_assoc]
theorem pred_app (ks ms : List Nat) (K : Nat) : pred (ks ++ ms) K = (pred ks K || pred ms K) := by
  unfold pred
  rw [List.any_append]
theorem countP_or (p q : Nat → Bool) : ∀ l : List Nat, l.countP (fun k => p k || q k) ≤ l.countP p + l.countP q
  | [] => Nat.le_refl _
  | a :: r => by
    have := countP_or p q r
    rw [List.countP_cons, List.countP_cons, List.countP_cons]
    cases p a <;> cases q a <;> simp <;> omega
theorem countP_orl (p q : Nat → Bool) : ∀ l : List Nat, l.countP p ≤ l.countP (fun k => p k || q k)
  | [] => Nat.le_refl _
  | a :: r => by
    have := countP_orl p q r
    rw [List.countP_cons, List.countP_cons]
    cases p a <;> cases q a <;> simp <;> omega
theorem nodup_le : ∀ (n : Nat) (l : List Nat), l.Nodup → (∀ x ∈ l, x < n) → l.length ≤ n
  | 0, l, _, h => by
    cases l with
    | nil => exact Nat.le_refl _
    | cons a r => exact absurd (h a List.mem_cons_self) (Nat.not_lt_zero _)
  | n + 1, l, hd, h => by
    have ih := nodup_le n (l.filter fun x => decide (x ≠ n)) (List.Pairwise.filter _ hd) (fun x hx => by
      obtain ⟨h1, h2⟩ := List.mem_filter.mp hx
      have := h x h1
      have := of_decide_eq_true h2
      omega)
    have hc : l.count n ≤ 1 := List.nodup_iff_count.mp hd n
    have e1 := List.length_eq_countP_add_countP (p := fun x => decide (x ≠ n)) (l := l)
    rw [← List.countP_eq_length_filter] at ih
    have e2 : l.countP (fun x => ¬ decide (x ≠ n)) = l.count n := by
      unfold List.count
      apply List.countP_congr
      intro x _
      simp
    omega
/-- a count of keys that y tells apart -/
theorem count_le_h {l : List Bool} {x1 y1 w h : Nat} {p : Nat → Bool} (hx : x1 + w ≤ 2 ^ nx l) (hy : y1 + h ≤ 2 ^ ny l)
    (inj : ∀ x y x' : Nat, x1 ≤ x → x < x1 + w → x1 ≤ x' → x' < x1 + w → y1 ≤ y → y < y1 + h → p (keyL l x y) = true → p (keyL l x' y) = true → x = x') : (boxN l x1 y1 w h).countP p ≤ h := by
  rw [List.countP_eq_length_filter, ← List.length_map (f := fun K => yOf l K - y1)]
  refine nodup_le h _ ?_ ?_
  · refine List.pairwise_map.mpr ?_
    refine List.Pairwise.imp_of_mem (R := (· ≠ ·)) (fun {a b} ha hb hne e => hne ?_) (List.Pairwise.filter _ (boxN_nodup hy w hx))
    obtain ⟨ha1, ha2⟩ := List.mem_filter.mp ha
    obtain ⟨hb1, hb2⟩ := List.mem_filter.mp hb
    obtain ⟨u, v, hu, hv, ea⟩ := boxN_mem.mp ha1
    obtain ⟨u', v', hu', hv', eb⟩ := boxN_mem.mp hb1
    have e : yOf l a - y1 = yOf l b - y1 := e
    rw [← ea, ← eb, yOf_key, yOf_key, Nat.mod_eq_of_lt (by omega), Nat.mod_eq_of_lt (by omega)] at e
    have hvv : v = v' := by omega
    subst hvv
    rw [← ea] at ha2
    rw [← eb] at hb2
    have := inj (x1 + u) (y1 + v) (x1 + u') (by omega) (by omega) (by omega) (by omega) (by omega) (by omega) ha2 hb2
    rw [← ea, ← eb, this]
  · intro z hz
    obtain ⟨K, hK, rfl⟩ := List.mem_map.mp hz
    obtain ⟨u, v, hu, hv, e⟩ := boxN_mem.mp (List.mem_filter.mp hK).1
    rw [← e, yOf_key, Nat.mod_eq_of_lt (by omega)]
    omega
theorem ylet_one {l : List Bool} {t t' : Nat} (h : t < l.length) (h' : t' < l.length) (e : l[t] = false) (e' : l[t'] = false) (n : ny (l.drop (t + 1)) = ny (l.drop (t' + 1))) : t = t' := by
  have key : ∀ t t' : Nat, ∀ (h : t < l.length) (h' : t' < l.length), l[t'] = false → t < t' → ny (l.drop (t' + 1)) < ny (l.drop (t + 1)) := by
    intro t t' h h' e' lt
    have hl : t' - (t + 1) < (l.drop (t + 1)).length := by rw [List.length_drop]; omega
    have := ny_drop_lt (l := l.drop (t + 1)) (j := t' - (t + 1)) hl (by rw [List.getElem_drop]; rw [← e']; congr 1; omega)
    rw [List.drop_drop, show t + 1 + (t' - (t + 1) + 1) = t' + 1 by omega] at this
    exact this
  rcases Nat.lt_trichotomy t t' with z | z | z
  · have := key t t' h h' e' z
    omega
  · exact z
  · have := key t' t h' h e z
    omega
/-- where the cell of the key before lies -/
theorem prev_cell {l : List Bool} {x y x' y' : Nat} (hx : x < 2 ^ nx l) (hy : y < 2 ^ ny l) (hx' : x' < 2 ^ nx l) (hy' : y' < 2 ^ ny l) (h : keyL l x' y' + 1 = keyL l x y) :
    x' + 1 = x ∨ ∃ (t : Nat) (ht : t < l.length), l[t] = false ∧ y % 2 ^ (ny (l.drop (t + 1)) + 1) = 2 ^ ny (l.drop (t + 1)) ∧ x % 2 ^ nx (l.drop (t + 1)) = 0 ∧ x' + 1 = x + 2 ^ nx (l.drop (t + 1)) := by
  obtain ⟨r, hr1, hr2⟩ := rank_ex (keyL l x y) (by omega)
  have lt := keyL_lt l x y
  have hrl : r < l.length := by
    rcases Nat.lt_or_ge r l.length with z | z
    · exact z
    · have := Nat.pow_le_pow_right (n := 2) (by decide) z
      omega
  have ht : l.length - 1 - r < l.length := by omega
  have sp : l = l.take (l.length - 1 - r) ++ l[l.length - 1 - r] :: l.drop (l.length - 1 - r + 1) := by rw [← List.drop_eq_getElem_cons ht, List.take_append_drop]
  have ls : (l.drop (l.length - 1 - r + 1)).length = r := by rw [List.length_drop]; omega
  cases hc : l[l.length - 1 - r] with
  | true =>
    rw [hc] at sp
    generalize l.take (l.length - 1 - r) = pre at sp
    generalize l.drop (l.length - 1 - r + 1) = suf at sp ls
    have hr : keyL (pre ++ true :: suf) x y % 2 ^ (suf.length + 1) = 2 ^ suf.length := by rw [← sp, ls]; exact hr1
    obtain ⟨a1, a2⟩ := rank_x pre suf hr
    obtain ⟨_, a3⟩ := pre_x pre suf a1 a2
    rw [← sp] at a3
    have x1 := (odd_pre a1).1
    have p := two_pos (ny suf)
    have hyl : y + 2 ^ ny suf - 1 < 2 ^ ny l := by
      have := (mul_post a2).1
      have e3 : ny l = ny pre + ny suf := by rw [sp, ny_app, ny_t]
      rw [e3, Nat.pow_add, Nat.mul_comm]
      refine (Nat.div_lt_iff_lt_mul p).mp ?_ |> fun h => by rw [Nat.mul_comm]; exact h
      rw [this]
      refine Nat.div_lt_of_lt_mul ?_
      rw [Nat.mul_comm, ← Nat.pow_add, ← e3]
      omega
    obtain ⟨z1, z2⟩ := key_inj (l := l) (x := x') (y := y') (x' := x - 1) (y' := y + 2 ^ ny suf - 1) hx' hy' (by omega) hyl (by omega)
    exact .inl (by omega)
  | false =>
    refine .inr ⟨l.length - 1 - r, ht, hc, ?_⟩
    rw [hc] at sp
    generalize l.take (l.length - 1 - r) = pre at sp
    generalize l.drop (l.length - 1 - r + 1) = suf at sp ls
    have hr : keyL (pre ++ false :: suf) x y % 2 ^ (suf.length + 1) = 2 ^ suf.length := by rw [← sp, ls]; exact hr1
    obtain ⟨a1, a2⟩ := rank_y pre suf hr
    obtain ⟨_, a3⟩ := pre_y pre suf a1 a2
    rw [← sp] at a3
    have y1 := (odd_pre a1).1
    have p := two_pos (nx suf)
    have hxl : x + 2 ^ nx suf - 1 < 2 ^ nx l := by
      have := (mul_post a2).1
      have e3 : nx l = nx pre + nx suf := by rw [sp, nx_app, nx_f]
      rw [e3, Nat.pow_add, Nat.mul_comm]
      refine (Nat.div_lt_iff_lt_mul p).mp ?_ |> fun h => by rw [Nat.mul_comm]; exact h
      rw [this]
      refine Nat.div_lt_of_lt_mul ?_
      rw [Nat.mul_comm, ← Nat.pow_add, ← e3]
      omega
    obtain ⟨z1, z2⟩ := key_inj (l := l) (x := x') (y := y') (x' := x + 2 ^ nx suf - 1) (y' := y - 1) hx' hy' hxl (by omega) (by omega)
    exact ⟨a1, a2, by omega⟩
theorem mul_in {x m i : Nat} (h : x % 2 ^ i = 0) (h1 : x ≤ m) (h2 : m < x + 2 ^ i) : x = 2 ^ i * (m / 2 ^ i) := by
  have p := two_pos i
  have e := Nat.div_add_mod x (2 ^ i)
  rw [h, Nat.add_zero] at e
  have q : m / 2 ^ i = x / 2 ^ i := by
    have e2 : m = 2 ^ i * (x / 2 ^ i) + (m - x) := by omega
    rw [e2, Nat.mul_add_div p, Nat.div_eq_of_lt (show m - x < 2 ^ i by omega), Nat.add_zero]
  rw [q]
  exact e.symm
theorem cut_runs {l : List Bool} {x1 y1 x2 y2 m : Nat} (b : Bx l x1 y1 x2 y2) (hm1 : x1 ≤ m) (hm2 : m < x2) :
    runsZ l x1 y1 x2 y2 ≤ runsZ l x1 y1 m y2 + runsZ l (m + 1) y1 x2 y2 ∧ runsZ l x1 y1 m y2 + runsZ l (m + 1) y1 x2 y2 ≤ runsZ l x1 y1 x2 y2 + 2 * ((y2 : Int) - (y1 : Int) + 1) := by
  obtain ⟨b1, b2, b3, b4⟩ := id b
  have bL : Bx l x1 y1 m y2 := ⟨hm1, b2, by omega, b4⟩
  have bR : Bx l (m + 1) y1 x2 y2 := ⟨by omega, b2, b3, b4⟩
  rw [runs_nb b, runs_nb bL, runs_nb bR]
  have ew : x2 + 1 - x1 = (m + 1 - x1) + (x2 + 1 - (m + 1)) := by omega
  have ea : (x2 + 1 - x1) * (y2 + 1 - y1) = (m + 1 - x1) * (y2 + 1 - y1) + (x2 + 1 - (m + 1)) * (y2 + 1 - y1) := by rw [ew, Nat.add_mul]
  have eb : boxN l x1 y1 (x2 + 1 - x1) (y2 + 1 - y1) = boxN l x1 y1 (m + 1 - x1) (y2 + 1 - y1) ++ boxN l (m + 1) y1 (x2 + 1 - (m + 1)) (y2 + 1 - y1) := by
    rw [ew, boxN_add, show x1 + (m + 1 - x1) = m + 1 by omega]
  have en : nb l x1 y1 x2 y2 = (boxN l x1 y1 (m + 1 - x1) (y2 + 1 - y1)).countP (fun K => pred (boxN l x1 y1 (m + 1 - x1) (y2 + 1 - y1)) K || pred (boxN l (m + 1) y1 (x2 + 1 - (m + 1)) (y2 + 1 - y1)) K) + (boxN l (m + 1) y1 (x2 + 1 - (m + 1)) (y2 + 1 - y1)).countP (fun K => pred (boxN l (m + 1) y1 (x2 + 1 - (m + 1)) (y2 + 1 - y1)) K || pred (boxN l x1 y1 (m + 1 - x1) (y2 + 1 - y1)) K) := by
    unfold nb
    rw [eb, List.countP_append]
    congr 1
    · congr 1
      funext K
      exact pred_app _ _ K
    · congr 1
      funext K
      rw [pred_app, Bool.or_comm]
  have nL : nb l x1 y1 m y2 = (boxN l x1 y1 (m + 1 - x1) (y2 + 1 - y1)).countP (pred (boxN l x1 y1 (m + 1 - x1) (y2 + 1 - y1))) := rfl
  have nR : nb l (m + 1) y1 x2 y2 = (boxN l (m + 1) y1 (x2 + 1 - (m + 1)) (y2 + 1 - y1)).countP (pred (boxN l (m + 1) y1 (x2 + 1 - (m + 1)) (y2 + 1 - y1))) := rfl
  have l1 := countP_orl (pred (boxN l x1 y1 (m + 1 - x1) (y2 + 1 - y1))) (pred (boxN l (m + 1) y1 (x2 + 1 - (m + 1)) (y2 + 1 - y1))) (boxN l x1 y1 (m + 1 - x1) (y2 + 1 - y1))
  have l2 := countP_orl (pred (boxN l (m + 1) y1 (x2 + 1 - (m + 1)) (y2 + 1 - y1))) (pred (boxN l x1 y1 (m + 1 - x1) (y2 + 1 - y1))) (boxN l (m + 1) y1 (x2 + 1 - (m + 1)) (y2 + 1 - y1))
  have u1 := countP_or (pred (boxN l x1 y1 (m + 1 - x1) (y2 + 1 - y1))) (pred (boxN l (m + 1) y1 (x2 + 1 - (m + 1)) (y2 + 1 - y1))) (boxN l x1 y1 (m + 1 - x1) (y2 + 1 - y1))
  have u2 := countP_or (pred (boxN l (m + 1) y1 (x2 + 1 - (m + 1)) (y2 + 1 - y1))) (pred (boxN l x1 y1 (m + 1 - x1) (y2 + 1 - y1))) (boxN l (m + 1) y1 (x2 + 1 - (m + 1)) (y2 + 1 - y1))
  have c1 : (boxN l x1 y1 (m + 1 - x1) (y2 + 1 - y1)).countP (pred (boxN l (m + 1) y1 (x2 + 1 - (m + 1)) (y2 + 1 - y1))) ≤ y2 + 1 - y1 := by
    refine count_le_h (by omega) (by omega) fun x y z hx1 hx2 hz1 hz2 hy1 hy2 hp hq => ?_
    obtain ⟨k, hk, ek⟩ := pred_iff.mp hp
    obtain ⟨k', hk', ek'⟩ := pred_iff.mp hq
    obtain ⟨u, v, hu, hv, e⟩ := boxN_mem.mp hk
    obtain ⟨u', v', hu', hv', e'⟩ := boxN_mem.mp hk'
    rcases prev_cell (l := l) (x := x) (y := y) (x' := m + 1 + u) (y' := y1 + v) (by omega) (by omega) (by omega) (by omega) (by omega) with q1 | ⟨t, ht, q2, q3, q4, q5⟩
    · omega
    rcases prev_cell (l := l) (x := z) (y := y) (x' := m + 1 + u') (y' := y1 + v') (by omega) (by omega) (by omega) (by omega) (by omega) with w1 | ⟨t', ht', w2, w3, w4, w5⟩
    · omega
    have tt := ylet_one ht ht' q2 w2 (rank_one q3 w3)
    subst tt
    rw [mul_in (m := m) q4 (by omega) (by omega), mul_in (m := m) w4 (by omega) (by omega)]
  have c2 : (boxN l (m + 1) y1 (x2 + 1 - (m + 1)) (y2 + 1 - y1)).countP (pred (boxN l x1 y1 (m + 1 - x1) (y2 + 1 - y1))) ≤ y2 + 1 - y1 := by
    refine count_le_h (by omega) (by omega) fun x y z hx1 hx2 hz1 hz2 hy1 hy2 hp hq => ?_
    obtain ⟨k, hk, ek⟩ := pred_iff.mp hp
    obtain ⟨k', hk', ek'⟩ := pred_iff.mp hq
    obtain ⟨u, v, hu, hv, e⟩ := boxN_mem.mp hk
    obtain ⟨u', v', hu', hv', e'⟩ := boxN_mem.mp hk'
    rcases prev_cell (l := l) (x := x) (y := y) (x' := x1 + u) (y' := y1 + v) (by omega) (by omega) (by omega) (by omega) (by omega) with q1 | ⟨t, ht, q2, q3, q4, q5⟩
    · rcases prev_cell (l := l) (x := z) (y := y) (x' := x1 + u') (y' := y1 + v') (by omega) (by omega) (by omega) (by omega) (by omega) with w1 | ⟨t', ht', w2, w3, w4, w5⟩
      · omega
      · have := two_pos (nx (l.drop (t' + 1)))
        omega
    · have := two_pos (nx (l.drop (t + 1)))
      omega
  omega
/-! ### rows and columns -/
def savS (l : List Bool) (x1 y1 x2 y2 : Nat) : Int := (savL l x1 y1 x2 y2).sum
theorem savS_cons (b : Bool) (r : List Bool) (x1 y1 x2 y2 : Nat) : savS (b :: r) x1 y1 x2 y2 = savI b (nx r) (ny r) x1 y1 x2 y2 + savS r x1 y1 x2 y2 := by
  unfold savS savL
  show ((savI b (nx r) (ny r) x1 y1 x2 y2) :: (feetL r).map _).sum = _
  rw [List.sum_cons]
theorem span_zero {y1 y2 : Nat} (h : y1 ≤ y2) : spanI 0 y1 y2 = (y2 : Int) + 1 - (y1 : Int) := by
  unfold spanI cmI
  rw [Int.pow_zero, if_neg (by omega), Int.ediv_one, Int.ediv_one]
  omega
/-- the multiples of 2 ^ n behind x1, up to x2 -/
theorem bord_cm {x1 x2 : Nat} (n : Nat) : bordI n x1 x2 = cmI n ((x1 : Int) + 1) x2 - cmI (n + 1) ((x1 : Int) + 1) x2 := rfl
theorem cm_zero {x1 x2 : Nat} (h : x1 ≤ x2) : cmI 0 ((x1 : Int) + 1) x2 = (x2 : Int) - (x1 : Int) := by
  unfold cmI
  by_cases e : (x2 : Int) < (x1 : Int) + 1
  · rw [if_pos e]
    omega
  · rw [if_neg e, Int.pow_zero, Int.ediv_one, Int.ediv_one]
    omega
theorem cm_none {x1 x2 n : Nat} (h : x1 ≤ x2) (hx : x2 < 2 ^ n) : cmI n ((x1 : Int) + 1) x2 = 0 := by
  unfold cmI
  by_cases e : (x2 : Int) < (x1 : Int) + 1
  · rw [if_pos e]
  · rw [if_neg e, show (x1 : Int) + 1 - 1 = (x1 : Int) by omega]
    have cp : ((2 : Int) ^ n) = ((2 ^ n : Nat) : Int) := by rw [Int.natCast_pow]; rfl
    rw [cp]
    have e1 : ((x2 : Nat) : Int) / ((2 ^ n : Nat) : Int) = ((x2 / 2 ^ n : Nat) : Int) := divNat _ _
    have e2 : ((x1 : Nat) : Int) / ((2 ^ n : Nat) : Int) = ((x1 / 2 ^ n : Nat) : Int) := divNat _ _
    rw [e1, e2, Nat.div_eq_of_lt hx, Nat.div_eq_of_lt (by omega)]
    rfl
theorem savS_xs {x1 y1 x2 y2 : Nat} (h1 : x1 ≤ x2) (h2 : y1 ≤ y2) : ∀ n : Nat, savS (List.replicate n true) x1 y1 x2 y2 = (cmI 0 ((x1 : Int) + 1) x2 - cmI n ((x1 : Int) + 1) x2) * ((y2 : Int) + 1 - (y1 : Int))
  | 0 => by
    rw [Int.sub_self, Int.zero_mul]
    rfl
  | n + 1 => by
    rw [List.replicate_succ, savS_cons, savS_xs h1 h2 n, nx_rt, ny_rt]
    unfold savI
    rw [if_pos rfl, bord_cm, span_zero h2, ← Int.add_mul]
    congr 1
    omega
theorem savS_ys {x1 y1 x2 y2 : Nat} (h1 : x1 ≤ x2) (h2 : y1 ≤ y2) : ∀ n : Nat, savS (List.replicate n false) x1 y1 x2 y2 = (cmI 0 ((y1 : Int) + 1) y2 - cmI n ((y1 : Int) + 1) y2) * ((x2 : Int) + 1 - (x1 : Int))
  | 0 => by
    rw [Int.sub_self, Int.zero_mul]
    rfl
  | n + 1 => by
    rw [List.replicate_succ, savS_cons, savS_ys h1 h2 n, nx_rf, ny_rf]
    unfold savI
    rw [if_neg (by decide), bord_cm, span_zero h1, ← Int.add_mul]
    congr 1
    omega
theorem savS_rows {x1 y1 x2 y2 : Nat} (h1 : x1 ≤ x2) (h2 : y1 ≤ y2) (n : Nat) : ∀ m : Nat, savS (rowsL n m) x1 y1 x2 y2 = (cmI 0 ((y1 : Int) + 1) y2 - cmI m ((y1 : Int) + 1) y2) * spanI n x1 x2 + savS (List.replicate n true) x1 y1 x2 y2
  | 0 => by
    show savS (List.replicate n true) x1 y1 x2 y2 = _
    rw [Int.sub_self, Int.zero_mul, Int.zero_add]
  | m + 1 => by
    have ih := savS_rows h1 h2 n m
    have e : rowsL n (m + 1) = false :: rowsL n m := rfl
    rw [e, savS_cons, ih, nx_rows, ny_rows]
    unfold savI
    rw [if_neg (by decide), bord_cm, ← Int.add_assoc, ← Int.add_mul]
    congr 2
    omega
theorem savS_cols {x1 y1 x2 y2 : Nat} (h1 : x1 ≤ x2) (h2 : y1 ≤ y2) (m : Nat) : ∀ n : Nat, savS (colsL n m) x1 y1 x2 y2 = (cmI 0 ((x1 : Int) + 1) x2 - cmI n ((x1 : Int) + 1) x2) * spanI m y1 y2 + savS (List.replicate m false) x1 y1 x2 y2
  | 0 => by
    show savS (List.replicate m false) x1 y1 x2 y2 = _
    rw [Int.sub_self, Int.zero_mul, Int.zero_add]
  | n + 1 => by
    have ih := savS_cols h1 h2 m n
    have e : colsL (n + 1) m = true :: colsL n m := rfl
    rw [e, savS_cons, ih, nx_cols, ny_cols]
    unfold savI
    rw [if_pos rfl, bord_cm, ← Int.add_assoc, ← Int.add_mul]
    congr 2
    omega
theorem span_whole {n x1 x2 : Nat} (h1 : x1 ≤ x2) (hx : x2 < 2 ^ n) : spanI n x1 x2 = if x2 + 1 - x1 = 2 ^ n then 1 else 0 := by
  unfold spanI cmI
  have cp : ((2 : Int) ^ n) = ((2 ^ n : Nat) : Int) := by rw [Int.natCast_pow]; rfl
  rw [cp]
  by_cases e : x2 + 1 - x1 = 2 ^ n
  · have ex : x1 = 0 := by omega
    subst ex
    rw [if_pos e, if_neg (by omega), show (x2 : Int) - ((2 ^ n : Nat) : Int) + 1 = 0 by omega, Int.zero_ediv, show ((0 : Nat) : Int) - 1 = -1 by rfl]
    have p := two_pos n
    have : (-1 : Int) / ((2 ^ n : Nat) : Int) = -1 := ((Int.ediv_emod_unique (a := -1) (r := ((2 ^ n : Nat) : Int) - 1) (q := -1) (by omega)).mpr ⟨by rw [Int.mul_neg, Int.mul_one]; omega, by omega, by omega⟩).1
    rw [this]
    rfl
  · rw [if_neg e, if_pos (by omega)]
theorem rows_runs {n m x1 y1 x2 y2 : Nat} (h1 : x1 ≤ x2) (h2 : y1 ≤ y2) (hx : x2 < 2 ^ n) (hy : y2 < 2 ^ m) : runsZ (rowsL n m) x1 y1 x2 y2 = if x2 + 1 - x1 = 2 ^ n then 1 else (y2 : Int) + 1 - (y1 : Int) := by
  have e := savS_rows h1 h2 n m
  rw [savS_xs h1 h2 n, cm_zero h1, cm_zero h2, cm_none h1 hx, cm_none h2 hy, span_whole h1 hx] at e
  unfold savS at e
  unfold runsZ
  rw [e, Int.natCast_mul, show ((x2 + 1 - x1 : Nat) : Int) = ((x2 : Int) - (x1 : Int)) + 1 by omega, show ((y2 + 1 - y1 : Nat) : Int) = (y2 : Int) + 1 - (y1 : Int) by omega, Int.add_mul, Int.one_mul, Int.sub_zero, Int.sub_zero]
  by_cases w : x2 + 1 - x1 = 2 ^ n
  · rw [if_pos w, if_pos w, Int.mul_one]
    omega
  · rw [if_neg w, if_neg w, Int.mul_zero]
    omega
theorem cols_runs {n m x1 y1 x2 y2 : Nat} (h1 : x1 ≤ x2) (h2 : y1 ≤ y2) (hx : x2 < 2 ^ n) (hy : y2 < 2 ^ m) : runsZ (colsL n m) x1 y1 x2 y2 = if y2 + 1 - y1 = 2 ^ m then 1 else (x2 : Int) + 1 - (x1 : Int) := by
  have e := savS_cols h1 h2 m n
  rw [savS_ys h1 h2 m, cm_zero h1, cm_zero h2, cm_none h1 hx, cm_none h2 hy, span_whole h2 hy] at e
  unfold savS at e
  unfold runsZ
  rw [e, Int.natCast_mul, Int.mul_comm, show ((x2 + 1 - x1 : Nat) : Int) = (x2 : Int) + 1 - (x1 : Int) by omega, show ((y2 + 1 - y1 : Nat) : Int) = ((y2 : Int) - (y1 : Int)) + 1 by omega, Int.add_mul, Int.one_mul, Int.sub_zero, Int.sub_zero]
  by_cases w : y2 + 1 - y1 = 2 ^ m
  · rw [if_pos w, if_pos w, Int.mul_one]
    omega
  · rw [if_neg w, if_neg w, Int.mul_zero]
    omega
end Lk

set_option Elab.async false
set_option linter.all false
set_option maxRecDepth 100000
set_option maxHeartbeats 4000000
namespace Lk
open PySem PySem.Spec PyProof.Rows L2
theorem leaf_int {i : Int} (h : i.natAbs < 2 ^ 220) : (PyData.int i).leavesShort 224 = true := by
  have hl : i.natAbs.log2 < 220 := PySem.Flt.log2_lt_of (by decide) h
  simp only [PyData.leavesShort, PyData.shown]
  refine decide_eq_true ?_
  rw [ofString_len]
  have := int_text_length_le (by decide) hl
  omega
theorem leaf_ints : ∀ ns : List Int, (∀ n ∈ ns, n.natAbs < 2 ^ 220) → PyData.leavesShortAll 224 (ns.map PyData.int) = true ∧ PyData.weightAll (ns.map PyData.int) ≤ 222 * ns.length
  | [], _ => by simp [PyData.leavesShortAll, PyData.weightAll]
  | n :: r, h => by
    obtain ⟨a, b⟩ := leaf_ints r fun m hm => h m (List.mem_cons_of_mem _ hm)
    have c := leaf_int (h n List.mem_cons_self)
    constructor
    · rw [List.map_cons]
      simp only [PyData.leavesShortAll, a, c, Bool.and_self]
    · have hl : n.natAbs.log2 < 220 := PySem.Flt.log2_lt_of (by decide) (h n List.mem_cons_self)
      rw [List.map_cons]
      simp only [PyData.weightAll, PyData.weight, List.length_cons]
      split <;> omega
theorem rp_ints (ns : List Int) (h : ∀ n ∈ ns, n.natAbs < 2 ^ 220) (hl : ns.length ≤ 300) : RpOk (.list (ns.map PyData.int)) := by
  have p1000 : ∀ n ∈ ns, n.natAbs < 2 ^ 1000 := fun n hn => Nat.lt_of_lt_of_le (h n hn) (Nat.pow_le_pow_right (by decide) (by decide))
  obtain ⟨b1, b2, b3, b4, b5, b6⟩ := atms_ok (ns.map PyData.int) (fun d hd => by
    obtain ⟨n, hn, rfl⟩ := List.mem_map.mp hd
    exact p1000 n hn)
  obtain ⟨c5, c6⟩ := leaf_ints ns h
  refine ⟨by simpa only [PyData.showable] using b1, by simpa only [PyData.hasDict] using b2, ?_, ?_⟩
  · simp only [PyData.depth, b3]
    omega
  · have s := PyData.shown_le 224 (by decide) (.list (ns.map PyData.int)) (by simpa only [PyData.leavesShort] using c5)
    have e : (PyData.list (ns.map PyData.int)).weight = PyData.weightAll (ns.map PyData.int) := by simp only [PyData.weight]
    rw [e] at s
    have : sizeLine = 16777216 := sizeLine_eq
    omega
theorem sav_nat {l : List Bool} {x1 y1 x2 y2 : Nat} (b : Bx l x1 y1 x2 y2) (g1 : nx l ≤ 100) (g2 : ny l ≤ 100) : ∀ z ∈ savL l x1 y1 x2 y2, z.natAbs < 2 ^ 220 := by
  intro z hz
  rw [← due_end b (sortB_lt l x1 y1 x2 y2) (sortB_perm b) (i := (sortB l x1 y1 x2 y2).length) (by omega)] at hz
  obtain ⟨t, _, rfl⟩ := List.mem_map.mp hz
  have h1 := adj_le (pT l.length t) ((sortB l x1 y1 x2 y2).take ((sortB l x1 y1 x2 y2).length + 1))
  rw [List.take_of_length_le (by omega)] at h1 ⊢
  rw [Int.natAbs_natCast]
  have h2 : (sortB l x1 y1 x2 y2).length ≤ 2 ^ l.length := by
    unfold sortB
    exact Nat.le_trans (List.length_filter_le _ _) (Nat.le_of_eq List.length_range')
  have h3 : 2 ^ l.length ≤ 2 ^ 200 := Nat.pow_le_pow_right (by decide) (by have := nxy l; omega)
  have h4 : (2 : Nat) ^ 200 < 2 ^ 220 := by decide
  omega
end Lk

set_option Elab.async false
set_option linter.all false
set_option maxRecDepth 100000
set_option maxHeartbeats 4000000
namespace Lk
open PySem PySem.Spec PyProof.Rows L2
/-! ### repr of lists of pairs -/
theorem leaf_int60 {i : Int} (h : i.natAbs < 2 ^ 60) : (PyData.int i).leavesShort 64 = true := by
  have hl : i.natAbs.log2 < 60 := PySem.Flt.log2_lt_of (by decide) h
  simp only [PyData.leavesShort, PyData.shown]
  refine decide_eq_true ?_
  rw [ofString_len]
  have := int_text_length_le (by decide) hl
  omega
def pairD (p : Int × Int) : PyData := .tuple [.int p.1, .int p.2]
theorem leaf_pairs : ∀ ps : List (Int × Int), (∀ p ∈ ps, p.1.natAbs < 2 ^ 60 ∧ p.2.natAbs < 2 ^ 60) → PyData.showableAll (ps.map pairD) = true ∧ PyData.hasDictAll (ps.map pairD) = false ∧ PyData.depthAll (ps.map pairD) ≤ 1 ∧ PyData.leavesShortAll 64 (ps.map pairD) = true ∧ PyData.weightAll (ps.map pairD) ≤ 160 * ps.length
  | [], _ => by simp [PyData.showableAll, PyData.hasDictAll, PyData.depthAll, PyData.leavesShortAll, PyData.weightAll]
  | p :: r, h => by
    obtain ⟨a1, a2, a3, a4, a5⟩ := leaf_pairs r fun m hm => h m (List.mem_cons_of_mem _ hm)
    obtain ⟨h1, h2⟩ := h p List.mem_cons_self
    have hp : ∀ d ∈ [PyData.int p.1, .int p.2], Atm d := allc (show p.1.natAbs < 2 ^ 1000 from Nat.lt_of_lt_of_le h1 (Nat.pow_le_pow_right (by decide) (by decide))) (all1 (show p.2.natAbs < 2 ^ 1000 from Nat.lt_of_lt_of_le h2 (Nat.pow_le_pow_right (by decide) (by decide))))
    obtain ⟨b1, b2, b3, b4, b5, b6⟩ := atms_ok _ hp
    have c1 := leaf_int60 h1
    have c2 := leaf_int60 h2
    have l1 : p.1.natAbs.log2 < 60 := PySem.Flt.log2_lt_of (by decide) h1
    have l2 : p.2.natAbs.log2 < 60 := PySem.Flt.log2_lt_of (by decide) h2
    refine ⟨?_, ?_, ?_, ?_, ?_⟩
    · rw [List.map_cons]
      simp only [PyData.showableAll, pairD, PyData.showable, a1, Bool.and_true]
      simpa only [PyData.showableAll, PyData.showable, Bool.and_true] using b1
    · rw [List.map_cons]
      simp only [PyData.hasDictAll, pairD, PyData.hasDict, a2, Bool.or_false]
    · rw [List.map_cons]
      simp only [PyData.depthAll, pairD, PyData.depth]
      omega
    · rw [List.map_cons]
      simp only [PyData.leavesShortAll, pairD, a4, Bool.and_true]
      simp only [PyData.leavesShort, PyData.leavesShortAll, Bool.and_true, Bool.and_eq_true] at c1 c2 ⊢
      exact ⟨c1, c2⟩
    · rw [List.map_cons]
      simp only [PyData.weightAll, pairD, PyData.weight, List.length_cons]
      split <;> split <;> omega
theorem rp_pairs (ps : List (Int × Int)) (h : ∀ p ∈ ps, p.1.natAbs < 2 ^ 60 ∧ p.2.natAbs < 2 ^ 60) (hl : ps.length ≤ 300) : RpOk (.list (ps.map pairD)) := by
  obtain ⟨a1, a2, a3, a4, a5⟩ := leaf_pairs ps h
  refine ⟨by simpa only [PyData.showable] using a1, by simpa only [PyData.hasDict] using a2, ?_, ?_⟩
  · simp only [PyData.depth]
    omega
  · have s := PyData.shown_le 64 (by decide) (.list (ps.map pairD)) (by simpa only [PyData.leavesShort] using a4)
    have e : (PyData.list (ps.map pairD)).weight = PyData.weightAll (ps.map pairD) := by simp only [PyData.weight]
    rw [e] at s
    have : sizeLine = 16777216 := sizeLine_eq
    omega
/-! ### a comprehension that makes pairs -/
def AccT (A : Addr) (H0 Hc : Hp) (ps : List (Int × Int)) : Prop := But A H0 Hc ∧ ∃ ts : List Addr, Hc A = some (.lst (ts.map V.ref)) ∧ TupsAt Hc ts ps
theorem AccT.nil {A : Addr} {H0 : Hp} : AccT A H0 (upd H0 A (.lst [])) [] := ⟨But.upd, [], upd_same, True.intro⟩
theorem AccT.snoc {A : Addr} {H0 Hc H' : Hp} {ps : List (Int × Int)} {t : Addr} {a b : Int} (h : AccT A H0 Hc ps) (e : Same Hc H') (kt : H' t = some (.tup [.int a, .int b])) :
    ∃ acc, H' A = some (.lst acc) ∧ acc.length = ps.length ∧ AccT A H0 (upd H' A (.lst (acc ++ [.ref t]))) (ps ++ [(a, b)]) := by
  obtain ⟨b0, ts, hA, hT⟩ := h
  have hA' := e _ _ hA
  have keep : ∀ (u : Addr) (x y : Int), H' u = some (.tup [.int x, .int y]) → (upd H' A (.lst (ts.map V.ref ++ [.ref t]))) u = some (.tup [.int x, .int y]) := fun u x y hu => by
    rw [upd_ne (fun z => by rw [z, hA'] at hu; cases hu)]
    exact hu
  refine ⟨_, hA', by rw [List.length_map, hT.len], But.trans (b0.trans (Same.but e)) But.upd, ts ++ [t], ?_, TupsAt.snoc (keep _ _ _ kt) (TupsAt.imp (fun u x y hu => keep _ _ _ (e _ _ hu)) hT)⟩
  rw [upd_same, List.map_append]
  rfl
theorem AccT.dp {K : PySem.W.Frag} {A : Addr} {H0 Hc : Hp} {ps : List (Int × Int)} (h : AccT A H0 Hc ps) : Dp K Hc (.ref A) (.list (ps.map pairD)) := by
  obtain ⟨b0, ts, hA, hT⟩ := h
  exact Dp.lst (SqL.of hA) hT.dp
def cellP (l : List Bool) (k : Nat) : Int × Int := (((xOf l k : Nat) : Int), ((yOf l k : Nat) : Int))
theorem rp_cells {l : List Bool} (h1 : nx l ≤ 30) (h2 : ny l ≤ 30) {ks : List Nat} (hl : ks.length ≤ 300) : RpOk (.list ((ks.map (cellP l)).map pairD)) := by
  refine rp_pairs _ (fun p hp => ?_) (by rw [List.length_map]; exact hl)
  obtain ⟨k, _, rfl⟩ := List.mem_map.mp hp
  have e1 : xOf l k < 2 ^ 60 := pwl (xOf_lt l k) (by omega)
  have e2 : yOf l k < 2 ^ 60 := pwl (yOf_lt l k) (by omega)
  exact ⟨by show (((xOf l k : Nat) : Int)).natAbs < _; rw [Int.natAbs_natCast]; exact e1, by show (((yOf l k : Nat) : Int)).natAbs < _; rw [Int.natAbs_natCast]; exact e2⟩
theorem take_snoc {ks : List Nat} {j k : Nat} (h : ks[j]? = some k) : ks.take (j + 1) = ks.take j ++ [k] := by
  rw [List.take_succ, h]
  rfl
theorem cut_int {ns : List Int} {lo hi : Option Int} {v : V} (h : v ∈ cutV (ns.map V.int) lo hi ++ [V.int 0]) : ∃ c : Int, v = .int c := by
  rcases List.mem_append.mp h with z | z
  · unfold cutV at z
    have z1 := List.mem_of_mem_drop (List.mem_of_mem_take z)
    obtain ⟨c, _, e⟩ := List.mem_map.mp z1
    exact ⟨c, e.symm⟩
  · exact ⟨0, List.mem_singleton.mp z⟩
theorem bag_new {H : Hp} {r : Addr} {c : Int} (h : BagX H r (if c - 1000000000000000000 > 0 then c - 1000000000000000000 else 0) c 0) : Bag H r := ⟨_, _, _, h, by split <;> omega⟩
end Lk
namespace Lk
open PySem PySem.Spec PyProof.Rows L2
theorem ex19 : ∀ x ∈ [1, 2], ∀ y ∈ [0, 1, 2, 3], lessO [false, true, false, true] (some (1, 0, 2, 3)) (keyL [false, true, false, true] x y) = 4 → xOf [false, true, false, true] (keyL [false, true, false, true] x y) = 1 ∧ yOf [false, true, false, true] (keyL [false, true, false, true] x y) = 2 := by decide +kernel
theorem ex19' {K : Nat} (h : keyIn [false, true, false, true] (some (1, 0, 2, 3)) K) (h2 : lessO [false, true, false, true] (some (1, 0, 2, 3)) K = 4) : xOf [false, true, false, true] K = 1 ∧ yOf [false, true, false, true] K = 2 := by
  obtain ⟨p, x, y, e, h1, h3, h4, h5, ek⟩ := h
  cases e
  simp only at h1 h3 h4 h5
  rw [← ek] at h2 ⊢
  refine ex19 x ?_ y ?_ h2
  · rcases (show x = 1 ∨ x = 2 by omega) with rfl | rfl <;> decide
  · rcases (show y = 0 ∨ y = 1 ∨ y = 2 ∨ y = 3 by omega) with rfl | rfl | rfl | rfl <;> decide
end Lk

set_option Elab.async false
set_option linter.all false
set_option maxRecDepth 100000
set_option maxHeartbeats 4000000
namespace Lk
open PySem PySem.Spec PyProof.Rows L2
/-! ### counting blocks -/
instance (l : List Bool) (p : P4) (t m : Nat) : Decidable (whole l p t m) := by unfold whole; exact Nat.decidableBallLT _ _
/-- whole stretches of 2 ^ s keys within the m-th of 2 ^ t -/
def wc (l : List Bool) (p : P4) (s t m : Nat) : Nat := (List.range (2 ^ (t - s))).countP fun r => decide (whole l p s (m * 2 ^ (t - s) + r))
theorem wc_self (l : List Bool) (p : P4) (t m : Nat) : wc l p t t m = if whole l p t m then 1 else 0 := by
  unfold wc
  rw [Nat.sub_self, Nat.pow_zero, show List.range 1 = [0] from rfl, List.countP_singleton, Nat.mul_one, Nat.add_zero]
  by_cases h : whole l p t m
  · rw [if_pos h, if_pos (decide_eq_true h)]
  · rw [if_neg h, if_neg (fun z => h (of_decide_eq_true z))]
theorem wc_split (l : List Bool) (p : P4) {s t : Nat} (h : s ≤ t) (m : Nat) : wc l p s (t + 1) m = wc l p s t (2 * m) + wc l p s t (2 * m + 1) := by
  unfold wc
  have e : 2 ^ (t + 1 - s) = 2 ^ (t - s) + 2 ^ (t - s) := by
    rw [show t + 1 - s = t - s + 1 by omega, Nat.pow_succ]
    omega
  rw [e, List.range_add, List.countP_append, List.countP_map]
  congr 1
  · apply List.countP_congr
    intro r _
    rw [show m * (2 ^ (t - s) + 2 ^ (t - s)) = 2 * m * 2 ^ (t - s) by rw [Nat.mul_add, Nat.mul_comm 2 m, Nat.mul_assoc, Nat.two_mul, Nat.mul_add]]
  · apply List.countP_congr
    intro r _
    show decide (whole l p s (m * (2 ^ (t - s) + 2 ^ (t - s)) + (2 ^ (t - s) + r))) = true ↔ _
    rw [show m * (2 ^ (t - s) + 2 ^ (t - s)) + (2 ^ (t - s) + r) = (2 * m + 1) * 2 ^ (t - s) + r by rw [Nat.add_mul, Nat.one_mul, Nat.mul_add, Nat.mul_comm 2 m, Nat.mul_assoc, Nat.two_mul, Nat.mul_add]; omega]
theorem whole_sub {l : List Bool} {p : P4} {s : Nat} : ∀ {t m : Nat}, s ≤ t → whole l p t m → ∀ r, r < 2 ^ (t - s) → whole l p s (m * 2 ^ (t - s) + r) := by
  intro t m h hw r hr q hq
  have e : (m * 2 ^ (t - s) + r) * 2 ^ s + q = m * 2 ^ t + (r * 2 ^ s + q) := by
    rw [Nat.add_mul, Nat.mul_assoc, ← Nat.pow_add, show t - s + s = t by omega]
    omega
  rw [e]
  refine hw _ ?_
  have h2 : (r + 1) * 2 ^ s ≤ 2 ^ (t - s) * 2 ^ s := Nat.mul_le_mul_right _ hr
  rw [← Nat.pow_add, show t - s + s = t by omega, Nat.add_mul, Nat.one_mul] at h2
  omega
theorem wc_whole {l : List Bool} {p : P4} {s t m : Nat} (h : s ≤ t) (hw : whole l p t m) : wc l p s t m = 2 ^ (t - s) := by
  unfold wc
  rw [List.countP_eq_length.mpr (fun r hr => decide_eq_true (whole_sub h hw r (List.mem_range.mp hr))), List.length_range]
theorem wc_half (l : List Bool) (p : P4) (s : Nat) : ∀ (d m : Nat), 2 * wc l p (s + 1) (s + 1 + d) m ≤ wc l p s (s + 1 + d) m
  | 0, m => by
    rw [Nat.add_zero]
    by_cases h : whole l p (s + 1) m
    · rw [wc_whole (Nat.le_refl _) h, wc_whole (by omega) h, Nat.sub_self, show s + 1 - s = 1 by omega]
      decide
    · rw [wc_self, if_neg h]
      omega
  | d + 1, m => by
    rw [← Nat.add_assoc, wc_split l p (by omega) m, wc_split l p (by omega) m]
    have h1 := wc_half l p s d (2 * m)
    have h2 := wc_half l p s d (2 * m + 1)
    omega
/-- how many greatest whole stretches of 2 ^ s keys -/
def gr (l : List Bool) (p : P4) (t m s : Nat) : Nat := wc l p s t m - 2 * (if s + 1 ≤ t then wc l p (s + 1) t m else 0)
theorem gr_top (l : List Bool) (p : P4) (t m : Nat) : gr l p t m t = if whole l p t m then 1 else 0 := by
  unfold gr
  rw [if_neg (by omega), wc_self, Nat.mul_zero, Nat.sub_zero]
theorem gr_split {l : List Bool} {p : P4} {t m s : Nat} (h : s ≤ t) (hw : ¬ whole l p (t + 1) m) : gr l p (t + 1) m s = gr l p t (2 * m) s + gr l p t (2 * m + 1) s := by
  unfold gr
  rw [if_pos (by omega), wc_split l p h m]
  by_cases c : s + 1 ≤ t
  · rw [if_pos c, if_pos c, wc_split l p c m]
    have h1 := wc_half l p s (t - (s + 1)) (2 * m)
    have h2 := wc_half l p s (t - (s + 1)) (2 * m + 1)
    rw [show s + 1 + (t - (s + 1)) = t by omega] at h1 h2
    omega
  · have e : s = t := by omega
    subst e
    rw [if_neg c, if_neg c, wc_self l p (s + 1), if_neg hw]
    omega
theorem gr_whole {l : List Bool} {p : P4} {t m s : Nat} (h : s < t) (hw : whole l p t m) : gr l p t m s = 0 := by
  unfold gr
  rw [if_pos (by omega), wc_whole (by omega) hw, wc_whole (by omega) hw, show t - s = t - (s + 1) + 1 by omega, Nat.pow_succ]
  omega
/-- the greatest whole stretches, by halves -/
def strL (l : List Bool) (p : P4) : Nat → Nat → List (Nat × Nat)
  | 0, m => if whole l p 0 m then [(m, 0)] else []
  | t + 1, m => if whole l p (t + 1) m then [(m * 2 ^ (t + 1), t + 1)] else strL l p t (2 * m) ++ strL l p t (2 * m + 1)
theorem map_sum_addN (f g : Nat → Nat) : ∀ l : List Nat, (l.map fun t => f t + g t).sum = (l.map f).sum + (l.map g).sum
  | [] => rfl
  | a :: r => by
    rw [List.map_cons, List.map_cons, List.map_cons, List.sum_cons, List.sum_cons, List.sum_cons, map_sum_addN f g r]
    omega
theorem strL_len (l : List Bool) (p : P4) : ∀ (t m : Nat), (strL l p t m).length = ((List.range (t + 1)).map (gr l p t m)).sum
  | 0, m => by
    show _ = gr l p 0 m 0 + 0
    rw [gr_top, Nat.add_zero]
    show (if whole l p 0 m then [(m, 0)] else []).length = _
    split <;> rfl
  | t + 1, m => by
    rw [List.range_succ, List.map_append, List.sum_append]
    show _ = _ + (gr l p (t + 1) m (t + 1) + 0)
    rw [gr_top, Nat.add_zero]
    show (if whole l p (t + 1) m then [(m * 2 ^ (t + 1), t + 1)] else strL l p t (2 * m) ++ strL l p t (2 * m + 1)).length = _
    by_cases h : whole l p (t + 1) m
    · rw [if_pos h, if_pos h]
      have : ((List.range (t + 1)).map (gr l p (t + 1) m)).sum = 0 := by
        have e : (List.range (t + 1)).map (gr l p (t + 1) m) = (List.range (t + 1)).map fun _ => 0 := by
          apply List.map_congr_left
          intro s hs
          exact gr_whole (List.mem_range.mp hs) h
        rw [e, List.map_const', List.sum_replicate_nat, Nat.mul_zero]
      rw [this]
      rfl
    · rw [if_neg h, if_neg h, List.length_append, strL_len l p t, strL_len l p t, Nat.add_zero, ← map_sum_addN]
      congr 1
      apply List.map_congr_left
      intro s hs
      exact (gr_split (by have := List.mem_range.mp hs; omega) h).symm
theorem strL_nil {l : List Bool} {p : P4} : ∀ {t m : Nat}, (∀ r, r < 2 ^ t → ¬ inK l p (m * 2 ^ t + r)) → strL l p t m = []
  | 0, m, h => by
    show (if whole l p 0 m then [(m, 0)] else []) = []
    rw [if_neg fun z => h 0 (by decide) (z 0 (by decide))]
  | t + 1, m, h => by
    show (if whole l p (t + 1) m then [(m * 2 ^ (t + 1), t + 1)] else strL l p t (2 * m) ++ strL l p t (2 * m + 1)) = []
    have pt := two_pos t
    rw [if_neg fun z => h 0 (two_pos _) (z 0 (two_pos _)), strL_nil fun r hr => ?_, strL_nil fun r hr => ?_]
    · rfl
    · have := h (2 ^ t + r) (by rw [Nat.pow_succ]; omega)
      rw [show (2 * m + 1) * 2 ^ t + r = m * 2 ^ (t + 1) + (2 ^ t + r) by rw [Nat.pow_succ, Nat.add_mul, Nat.mul_comm 2 m, Nat.mul_assoc, Nat.mul_comm 2]; omega]
      exact this
    · have := h r (by rw [Nat.pow_succ]; omega)
      rw [show 2 * m * 2 ^ t + r = m * 2 ^ (t + 1) + r by rw [Nat.pow_succ, Nat.mul_comm 2 m, Nat.mul_assoc, Nat.mul_comm 2]]
      exact this
theorem strL_in {l : List Bool} {p : P4} : ∀ {t m : Nat} {e : Nat × Nat}, e ∈ strL l p t m → m * 2 ^ t ≤ e.1 ∧ e.1 + 2 ^ e.2 ≤ m * 2 ^ t + 2 ^ t
  | 0, m, e, h => by
    have h : e ∈ (if whole l p 0 m then [(m, 0)] else []) := h
    split at h
    · rw [List.mem_singleton.mp h]
      simp
    · exact absurd h List.not_mem_nil
  | t + 1, m, e, h => by
    have h : e ∈ (if whole l p (t + 1) m then [(m * 2 ^ (t + 1), t + 1)] else strL l p t (2 * m) ++ strL l p t (2 * m + 1)) := h
    split at h
    · rw [List.mem_singleton.mp h]
      exact ⟨Nat.le_refl _, Nat.le_refl _⟩
    · have pt := two_pos t
      have e1 : 2 * m * 2 ^ t = m * 2 ^ (t + 1) := by rw [Nat.pow_succ, Nat.mul_comm 2 m, Nat.mul_assoc, Nat.mul_comm 2]
      have e2 : (2 * m + 1) * 2 ^ t = m * 2 ^ (t + 1) + 2 ^ t := by rw [Nat.add_mul, Nat.one_mul, e1]
      have e3 : 2 ^ (t + 1) = 2 ^ t + 2 ^ t := by rw [Nat.pow_succ]; omega
      rcases List.mem_append.mp h with z | z
      · have := strL_in z
        rw [e1] at this
        omega
      · have := strL_in z
        rw [e2] at this
        omega
/-- the greatest whole stretch with a key -/
theorem strL_at {l : List Bool} {p : P4} {k : Nat} (hk : inK l p k) : ∀ {t m : Nat}, k / 2 ^ t = m → ∃ T, T ≤ t ∧ whole l p T (k / 2 ^ T) ∧ (∀ s, s ≤ t → whole l p s (k / 2 ^ s) → s ≤ T) ∧
    (strL l p t m).filter (fun e => decide (e.1 ≤ k) && decide (k < e.1 + 2 ^ e.2)) = [(k / 2 ^ T * 2 ^ T, T)]
  | 0, m, hm => by
    have hm' : k = m := by simpa using hm
    subst hm'
    refine ⟨0, Nat.le_refl _, ?_, fun s hs _ => hs, ?_⟩
    · rw [Nat.pow_zero, Nat.div_one]
      exact whole_zero.mpr hk
    · show (if whole l p 0 k then [(k, 0)] else []).filter _ = _
      rw [if_pos (whole_zero.mpr hk)]
      simp
  | t + 1, m, hm => by
    have pt := two_pos t
    by_cases h : whole l p (t + 1) m
    · refine ⟨t + 1, Nat.le_refl _, by rw [hm]; exact h, fun s hs _ => hs, ?_⟩
      show (if whole l p (t + 1) m then [(m * 2 ^ (t + 1), t + 1)] else strL l p t (2 * m) ++ strL l p t (2 * m + 1)).filter _ = _
      rw [if_pos h, hm]
      have h1 := Nat.div_add_mod k (2 ^ (t + 1))
      have h2 := Nat.mod_lt k (two_pos (t + 1))
      rw [hm, Nat.mul_comm] at h1
      rw [List.filter_cons, if_pos (by simp; omega)]
      rfl
    · have e1 : 2 * m * 2 ^ t = m * 2 ^ (t + 1) := by rw [Nat.pow_succ, Nat.mul_comm 2 m, Nat.mul_assoc, Nat.mul_comm 2]
      have e2 : (2 * m + 1) * 2 ^ t = m * 2 ^ (t + 1) + 2 ^ t := by rw [Nat.add_mul, Nat.one_mul, e1]
      have hd : k / 2 ^ t / 2 = m := by rw [Nat.div_div_eq_div_mul, ← Nat.pow_succ]; exact hm
      have hk1 := Nat.div_add_mod k (2 ^ t)
      have hk2 := Nat.mod_lt k pt
      have go : ∀ (T : Nat), T ≤ t → whole l p T (k / 2 ^ T) → (∀ s, s ≤ t → whole l p s (k / 2 ^ s) → s ≤ T) → ∀ s, s ≤ t + 1 → whole l p s (k / 2 ^ s) → s ≤ T := fun T hT _ hmax s hs hw => by
        rcases Nat.lt_or_ge s (t + 1) with z | z
        · exact hmax s (by omega) hw
        · have : s = t + 1 := by omega
          subst this
          rw [hm] at hw
          exact absurd hw h
      rcases Nat.mod_two_eq_zero_or_one (k / 2 ^ t) with z | z
      · have ek : k / 2 ^ t = 2 * m := by omega
        obtain ⟨T, hT, hw, hmax, hf⟩ := strL_at hk ek
        refine ⟨T, by omega, hw, go T hT hw hmax, ?_⟩
        show (if whole l p (t + 1) m then [(m * 2 ^ (t + 1), t + 1)] else strL l p t (2 * m) ++ strL l p t (2 * m + 1)).filter _ = _
        rw [if_neg h, List.filter_append, hf]
        have : (strL l p t (2 * m + 1)).filter (fun e => decide (e.1 ≤ k) && decide (k < e.1 + 2 ^ e.2)) = [] := List.filter_eq_nil_iff.mpr fun e he => by
          have := (strL_in he).1
          rw [ek, Nat.mul_comm, e1] at hk1
          rw [e2] at this
          simp
          omega
        rw [this]
        rfl
      · have ek : k / 2 ^ t = 2 * m + 1 := by omega
        obtain ⟨T, hT, hw, hmax, hf⟩ := strL_at hk ek
        refine ⟨T, by omega, hw, go T hT hw hmax, ?_⟩
        show (if whole l p (t + 1) m then [(m * 2 ^ (t + 1), t + 1)] else strL l p t (2 * m) ++ strL l p t (2 * m + 1)).filter _ = _
        rw [if_neg h, List.filter_append, hf]
        have : (strL l p t (2 * m)).filter (fun e => decide (e.1 ≤ k) && decide (k < e.1 + 2 ^ e.2)) = [] := List.filter_eq_nil_iff.mpr fun e he => by
          have := (strL_in he).2
          rw [ek, Nat.mul_comm, e2] at hk1
          rw [e1] at this
          simp
          omega
        rw [this]
        rfl
/-- keys by cells of the grid of a word -/
theorem cnt_keys (l : List Bool) (f g : Nat → Bool) : (List.range (2 ^ l.length)).countP (fun m => f (xOf l m) && g (yOf l m)) = (List.range (2 ^ nx l)).countP f * (List.range (2 ^ ny l)).countP g := by
  have px := two_pos (nx l)
  have py := two_pos (ny l)
  rw [List.range_eq_range', (whole_perm l).countP_eq, show 2 ^ nx l - 1 + 1 - 0 = 2 ^ nx l by omega, show 2 ^ ny l - 1 + 1 - 0 = 2 ^ ny l by omega]
  exact boxN_count (px := f) (py := g) _ fun a b ha hb => by
    rw [Nat.zero_add, Nat.zero_add, xOf_key, yOf_key, Nat.mod_eq_of_lt ha, Nat.mod_eq_of_lt hb]
theorem ceil_iff {a n X : Nat} (hn : 0 < n) : (a + n - 1) / n ≤ X ↔ a ≤ X * n := by
  rw [div_between hn]
  omega
theorem span_cnt {d x1 x2 : Nat} (h : x1 ≤ x2) : spanI d x1 x2 = (((x2 + 1) / 2 ^ d - (x1 + 2 ^ d - 1) / 2 ^ d : Nat) : Int) := by
  have pd := two_pos d
  unfold spanI cmI
  have e2 : ((2 : Int) ^ d) = ((2 ^ d : Nat) : Int) := by rw [Int.natCast_pow]; rfl
  rw [e2]
  generalize hM : 2 ^ d = M at pd ⊢
  have hMi : (0 : Int) < (M : Int) := by omega
  have h1 : ((x2 : Int) - (M : Int) + 1) / (M : Int) = (((x2 + 1) / M : Nat) : Int) - 1 := by
    rw [show (x2 : Int) - (M : Int) + 1 = ((x2 + 1 : Nat) : Int) + (-1) * (M : Int) by omega, Int.add_mul_ediv_right _ _ (by omega)]
    rfl
  have h2 : ((x1 : Int) - 1) / (M : Int) = (((x1 + M - 1) / M : Nat) : Int) - 1 := by
    rw [show (x1 : Int) - 1 = ((x1 + M - 1 : Nat) : Int) + (-1) * (M : Int) by omega, Int.add_mul_ediv_right _ _ (by omega)]
    rfl
  by_cases c : (x2 : Int) - (M : Int) + 1 < (x1 : Int)
  · rw [if_pos c]
    have : (x2 + 1) / M ≤ (x1 + M - 1) / M := by
      have e : x2 + 1 ≤ x1 + M - 1 := by omega
      exact Nat.div_le_div_right e
    omega
  · rw [if_neg c, h1, h2]
    have : (x1 + M - 1) / M ≤ (x2 + 1) / M := by
      have e : x1 + M - 1 ≤ x2 + 1 - 1 + 0 ∨ True := .inr trivial
      rw [ceil_iff pd]
      have h3 : x1 + M ≤ x2 + 1 := by omega
      have h4 := Nat.div_add_mod (x2 + 1) M
      have h5 := Nat.mod_lt (x2 + 1) pd
      rw [Nat.mul_comm] at h4
      omega
    omega
/-- whole stretches of 2 ^ t keys: the sides of the box tell -/
theorem wc_span {l : List Bool} {x1 y1 x2 y2 : Nat} (b : Bx l x1 y1 x2 y2) {t : Nat} (ht : t ≤ l.length) :
    ((wc l (x1, y1, x2, y2) t l.length 0 : Nat) : Int) = spanI (nx (l.drop (l.length - t))) x1 x2 * spanI (ny (l.drop (l.length - t))) y1 y2 := by
  obtain ⟨b1, b2, b3, b4⟩ := b
  have hs : (l.drop (l.length - t)).length = t := by rw [List.length_drop]; omega
  have hp : (l.take (l.length - t)).length = l.length - t := by rw [List.length_take]; omega
  have hl : l.take (l.length - t) ++ l.drop (l.length - t) = l := List.take_append_drop _ _
  have hx : nx l = nx (l.take (l.length - t)) + nx (l.drop (l.length - t)) := by rw [← nx_app, hl]
  have hy : ny l = ny (l.take (l.length - t)) + ny (l.drop (l.length - t)) := by rw [← ny_app, hl]
  rw [span_cnt b1, span_cnt b2]
  generalize l.take (l.length - t) = pre at hp hl hx hy
  generalize l.drop (l.length - t) = suf at hs hl hx hy ⊢
  unfold wc
  have px := two_pos (nx suf)
  have py := two_pos (ny suf)
  have e : (List.range (2 ^ (l.length - t))).countP (fun r => decide (whole l (x1, y1, x2, y2) t (0 * 2 ^ (l.length - t) + r))) = (List.range (2 ^ pre.length)).countP (fun m => (decide ((x1 + 2 ^ nx suf - 1) / 2 ^ nx suf ≤ xOf pre m) && decide (xOf pre m < (x2 + 1) / 2 ^ nx suf)) && (decide ((y1 + 2 ^ ny suf - 1) / 2 ^ ny suf ≤ yOf pre m) && decide (yOf pre m < (y2 + 1) / 2 ^ ny suf))) := by
    rw [hp]
    apply List.countP_congr
    intro m _
    rw [Nat.zero_mul, Nat.zero_add, decide_eq_true_iff, ← hl, ← hs, whole_iff]
    simp only [Bool.and_eq_true, decide_eq_true_iff]
    rw [ceil_iff px, ceil_iff py, ← Nat.succ_le_iff (m := xOf pre m), ← Nat.succ_le_iff (m := yOf pre m), Nat.le_div_iff_mul_le px, Nat.le_div_iff_mul_le py, Nat.succ_mul, Nat.succ_mul]
  rw [e, cnt_keys pre (fun X => decide ((x1 + 2 ^ nx suf - 1) / 2 ^ nx suf ≤ X) && decide (X < (x2 + 1) / 2 ^ nx suf)) (fun Y => decide ((y1 + 2 ^ ny suf - 1) / 2 ^ ny suf ≤ Y) && decide (Y < (y2 + 1) / 2 ^ ny suf)), count_between _ _ _ ?_, count_between _ _ _ ?_, Int.natCast_mul]
  · rw [hy, Nat.pow_add] at b4
    exact Nat.div_le_of_le_mul (by rw [Nat.mul_comm]; omega)
  · rw [hx, Nat.pow_add] at b3
    exact Nat.div_le_of_le_mul (by rw [Nat.mul_comm]; omega)
end Lk

set_option Elab.async false
set_option linter.all false
set_option maxRecDepth 100000
set_option maxHeartbeats 4000000
namespace Lk
open PySem PySem.Spec PyProof.Rows L2
/-- a comprehension over the feet of a word -/
theorem lc_feet {K : PySem.W.Frag} {f : Addr} {ts : List Addr} {l : List Bool} {H2 : Hp} {g : TG} {tt : TT} {te : TE} {vs : List Nat} {σ : L2.St} {D : Addr} {Qd : Hp → Prop} (F : FeetAt H2 f ts (feetL l)) (nD : H2 D = none) (Pv : Nat → Hp → Prop) (hP : ∀ i H, Pv i H → But D H2 H) (h0 : Pv 0 (upd H2 D (.lst [])))
    (hs : ∀ i (hi : i < l.length) t H, H t = some (.tup [.str (lt l[i]), .int (nx (l.drop (i + 1)) : Nat), .int (ny (l.drop (i + 1)) : Nat)]) → Pv i H → g (.ref t) (wipe σ vs) H fun σ2 H2 => wipe σ2 vs = wipe σ vs ∧ tt σ2 H2 fun b H3 =>
      if b = true then te σ2 H3 fun y H4 => ∃ acc, H4 D = some (.lst acc) ∧ acc.length < sizeLine ∧ Pv (i + 1) (upd H4 D (.lst (acc ++ [y]))) else Pv (i + 1) H3) (hd : ∀ H, Pv l.length H → Qd H) :
    ∃ W : Nat → Nat → Hp → Prop, (∃ m, W 0 m (upd H2 D (.lst []))) ∧ ∀ i m H, W i m H →
      ((Itl K f).stop i H ∧ Qd H) ∨ ((Itl K f).go i H ∧ ∃ Nx : Hp → Prop, (∀ H', Nx H' → ∃ m', m' < m ∧ W (i + 1) m' H') ∧ ∀ x H', (Itl K f).yld i H x H' → g x (wipe σ vs) H' fun σ2 H2 => wipe σ2 vs = wipe σ vs ∧ tt σ2 H2 fun b H3 =>
        if b = true then te σ2 H3 fun y H4 => ∃ acc, H4 D = some (.lst acc) ∧ acc.length < sizeLine ∧ Nx (upd H4 D (.lst (acc ++ [y]))) else Nx H3) := by
  have lenT : ts.length = l.length := F.2.1.trans (feetL_len l)
  refine lc_list (K := K) (a := f) (xs := ts.map V.ref) Pv h0 (fun i H _ W => SqL.of (hP i H W _ _ (ne_of_none F.1 nD) F.1)) (fun i v H hv W => ?_) (fun H W => ?_)
  · obtain ⟨t, ht, rfl⟩ : ∃ t, ts[i]? = some t ∧ v = V.ref t := by
      rw [List.getElem?_map] at hv
      cases e : ts[i]? with
      | none => rw [e] at hv; cases hv
      | some t => rw [e] at hv; exact ⟨t, rfl, (Option.some.inj hv).symm⟩
    have hi : i < l.length := by rw [← lenT]; exact (List.getElem?_eq_some_iff.mp ht).1
    have kt := F.2.2 i t _ ht (feetL_get l i hi)
    exact hs i hi t H (hP i H W _ _ (ne_of_none kt nD) kt) W
  · rw [List.length_map, lenT] at W
    exact hd H W
def shapeP (l : List Bool) : List (Int × Int) := (List.range (l.length + 1)).map fun t => (((nx (l.drop (l.length - t)) : Nat) : Int), ((ny (l.drop (l.length - t)) : Nat) : Int))
def footP (l : List Bool) : List (Int × Int) := (List.range l.length).map fun k => (((nx (l.drop (k + 1)) : Nat) : Int), ((ny (l.drop (k + 1)) : Nat) : Int))
theorem shapeP_len (l : List Bool) : (shapeP l).length = l.length + 1 := by unfold shapeP; rw [List.length_map, List.length_range]
theorem footP_len (l : List Bool) : (footP l).length = l.length := by unfold footP; rw [List.length_map, List.length_range]
theorem footP_get (l : List Bool) {k : Nat} (h : k < l.length) : (footP l)[k]? = some (((nx (l.drop (k + 1)) : Nat) : Int), ((ny (l.drop (k + 1)) : Nat) : Int)) := by
  unfold footP
  rw [List.getElem?_map, List.getElem?_range h]
  rfl
theorem shape_foot (l : List Bool) : (footP l).reverse ++ [(((nx l : Nat) : Int), ((ny l : Nat) : Int))] = shapeP l := by
  unfold shapeP
  rw [List.range_succ, List.map_append]
  congr 1
  · apply List.ext_getElem?
    intro t
    by_cases h : t < l.length
    · rw [List.getElem?_reverse (by rw [footP_len]; exact h), footP_len, footP_get l (by omega), List.getElem?_map, List.getElem?_range h]
      show some _ = some _
      rw [show l.length - 1 - t + 1 = l.length - t by omega]
    · rw [List.getElem?_eq_none (by rw [List.length_reverse, footP_len]; omega), List.getElem?_eq_none (by rw [List.length_map, List.length_range]; omega)]
  · rw [List.map_singleton, Nat.sub_self, List.drop_zero]
theorem TupsAt.rev {H : Hp} : ∀ {ts : List Addr} {ps : List (Int × Int)}, TupsAt H ts ps → TupsAt H ts.reverse ps.reverse
  | [], [], _ => True.intro
  | [], _ :: _, h => h.elim
  | _ :: _, [], h => h.elim
  | t :: ts, p :: ps, h => by
    rw [List.reverse_cons, List.reverse_cons]
    exact TupsAt.snoc h.1 (TupsAt.rev h.2)
theorem TupsAt.get {H : Hp} : ∀ {ts : List Addr} {ps : List (Int × Int)} {k : Nat} {p : Int × Int}, TupsAt H ts ps → ps[k]? = some p → ∃ t, ts[k]? = some t ∧ H t = some (.tup [.int p.1, .int p.2])
  | [], [], _, _, _, h => by simp at h
  | [], _ :: _, _, _, h, _ => h.elim
  | _ :: _, [], _, _, h, _ => h.elim
  | t :: ts, p :: ps, 0, q, h, e => by
    cases e
    exact ⟨t, rfl, h.1⟩
  | t :: ts, p :: ps, k + 1, q, h, e => TupsAt.get (k := k) h.2 e
theorem shapeP_get (l : List Bool) {t : Nat} (h : t ≤ l.length) : (shapeP l)[t]? = some (((nx (l.drop (l.length - t)) : Nat) : Int), ((ny (l.drop (l.length - t)) : Nat) : Int)) := by
  unfold shapeP
  rw [List.getElem?_map, List.getElem?_range (by omega)]
  rfl
/-- the numbers of whole stretches, by bits -/
def wcL (l : List Bool) (p : P4) : List Int := (List.range (l.length + 1)).map fun t => ((wc l p t l.length 0 : Nat) : Int)
theorem wcL_len (l : List Bool) (p : P4) : (wcL l p).length = l.length + 1 := by unfold wcL; rw [List.length_map, List.length_range]
theorem wcL_get (l : List Bool) (p : P4) {t : Nat} (h : t ≤ l.length) : (wcL l p)[t]? = some ((wc l p t l.length 0 : Nat) : Int) := by
  unfold wcL
  rw [List.getElem?_map, List.getElem?_range (by omega)]
  rfl
def grL (l : List Bool) (p : P4) : List Int := (List.range (l.length + 1)).map fun t => ((gr l p l.length 0 t : Nat) : Int)
theorem gr_int (l : List Bool) (p : P4) {t : Nat} (h : t ≤ l.length) : ((wc l p t l.length 0 : Nat) : Int) - 2 * (if t + 1 ≤ l.length then ((wc l p (t + 1) l.length 0 : Nat) : Int) else 0) = ((gr l p l.length 0 t : Nat) : Int) := by
  unfold gr
  by_cases c : t + 1 ≤ l.length
  · rw [if_pos c, if_pos c]
    have := wc_half l p t (l.length - (t + 1)) 0
    rw [show t + 1 + (l.length - (t + 1)) = l.length by omega] at this
    omega
  · rw [if_neg c, if_neg c]
    omega
def sizeP (l : List Bool) (p : P4) : List (Int × Int) := ((List.range (l.length + 1)).filter fun t => decide (0 < gr l p l.length 0 t)).map fun t => (((t : Nat) : Int), ((gr l p l.length 0 t : Nat) : Int))
theorem sum_filter_pos (f : Nat → Nat) : ∀ l : List Nat, (((l.filter fun t => decide (0 < f t)).map fun t => ((f t : Nat) : Int))).sum = (((l.map f).sum : Nat) : Int)
  | [] => rfl
  | a :: r => by
    rw [List.filter_cons, List.map_cons, List.sum_cons]
    by_cases h : 0 < f a
    · rw [if_pos (decide_eq_true h), List.map_cons, List.sum_cons, sum_filter_pos f r, Int.natCast_add]
    · rw [if_neg (fun z => h (of_decide_eq_true z)), sum_filter_pos f r, show f a = 0 by omega, Nat.zero_add]
theorem size_sum (l : List Bool) (p : P4) : ((sizeP l p).map Prod.snd).sum = (((strL l p l.length 0).length : Nat) : Int) := by
  unfold sizeP
  rw [List.map_map, strL_len]
  exact sum_filter_pos (gr l p l.length 0) (List.range (l.length + 1))
/-- the block of a cell -/
theorem whole_cell {l : List Bool} {p : P4} {x y t : Nat} (hx : x < 2 ^ nx l) (hy : y < 2 ^ ny l) (ht : t ≤ l.length) : whole l p t (keyL l x y / 2 ^ t) ↔
    (p.1 ≤ x / 2 ^ nx (l.drop (l.length - t)) * 2 ^ nx (l.drop (l.length - t)) ∧ x / 2 ^ nx (l.drop (l.length - t)) * 2 ^ nx (l.drop (l.length - t)) + 2 ^ nx (l.drop (l.length - t)) ≤ p.2.2.1 + 1) ∧
    (p.2.1 ≤ y / 2 ^ ny (l.drop (l.length - t)) * 2 ^ ny (l.drop (l.length - t)) ∧ y / 2 ^ ny (l.drop (l.length - t)) * 2 ^ ny (l.drop (l.length - t)) + 2 ^ ny (l.drop (l.length - t)) ≤ p.2.2.2 + 1) := by
  have hs : (l.drop (l.length - t)).length = t := by rw [List.length_drop]; omega
  have hl : l.take (l.length - t) ++ l.drop (l.length - t) = l := List.take_append_drop _ _
  have hnx : nx l = nx (l.take (l.length - t)) + nx (l.drop (l.length - t)) := by rw [← nx_app, hl]
  have hny : ny l = ny (l.take (l.length - t)) + ny (l.drop (l.length - t)) := by rw [← ny_app, hl]
  generalize l.take (l.length - t) = pre at hl hnx hny
  generalize l.drop (l.length - t) = suf at hs hl hnx hny ⊢
  rw [hnx, Nat.pow_add] at hx
  rw [hny, Nat.pow_add] at hy
  have ek : keyL l x y / 2 ^ t = keyL pre (x / 2 ^ nx suf) (y / 2 ^ ny suf) := by
    have h0 : keyL suf x y / 2 ^ t = 0 := Nat.div_eq_of_lt (by rw [← hs]; exact keyL_lt suf x y)
    rw [← hl, keyL_app, hs, Nat.mul_comm, Nat.mul_add_div (two_pos t), h0, Nat.add_zero]
  rw [ek, ← hl, ← hs, whole_iff, xOf_key, yOf_key, Nat.mod_eq_of_lt (Nat.div_lt_of_lt_mul (by rw [Nat.mul_comm]; exact hx)), Nat.mod_eq_of_lt (Nat.div_lt_of_lt_mul (by rw [Nat.mul_comm]; exact hy))]
theorem span_mul {i j x1 y1 x2 y2 : Nat} (h1 : x1 ≤ x2) (h2 : y1 ≤ y2) (hx : x2 < 2 ^ 100) (hy : y2 < 2 ^ 100) : CMulW (spanI i x1 x2) (spanI j y1 y2) := by
  rw [span_cnt h1, span_cnt h2]
  have e1 : (x2 + 1) / 2 ^ i - (x1 + 2 ^ i - 1) / 2 ^ i ≤ 2 ^ 100 := Nat.le_trans (Nat.sub_le _ _) (Nat.le_trans (Nat.div_le_self _ _) hx)
  have e2 : (y2 + 1) / 2 ^ j - (y1 + 2 ^ j - 1) / 2 ^ j ≤ 2 ^ 100 := Nat.le_trans (Nat.sub_le _ _) (Nat.le_trans (Nat.div_le_self _ _) hy)
  exact cmulN (Nat.lt_of_le_of_lt e1 (pw (x := 100) (by omega))) (Nat.lt_of_le_of_lt e2 (pw (x := 100) (by omega)))
theorem cut_one {xs : List V} (h : 1 ≤ xs.length) : cutV xs (some 1) none = xs.drop 1 := by
  unfold cutV
  rw [HT.sIx_none, show (1 : Int) = ((1 : Nat) : Int) from rfl, HT.sIx_nat, Nat.min_eq_left h, List.take_of_length_le (by rw [List.length_drop]; exact Nat.le_refl _)]
def abL (l : List Bool) (p : P4) : List Int := (wcL l p).drop 1 ++ [0]
theorem abL_len (l : List Bool) (p : P4) : (abL l p).length = l.length + 1 := by unfold abL; rw [List.length_append, List.length_drop, wcL_len]; rfl
theorem abL_get (l : List Bool) (p : P4) {t : Nat} (h : t ≤ l.length) : (abL l p)[t]? = some (if t + 1 ≤ l.length then ((wc l p (t + 1) l.length 0 : Nat) : Int) else 0) := by
  unfold abL
  by_cases c : t + 1 ≤ l.length
  · rw [if_pos c, List.getElem?_append_left (by rw [List.length_drop, wcL_len]; omega), List.getElem?_drop, Nat.add_comm 1 t, wcL_get l p c]
  · rw [if_neg c, List.getElem?_append_right (by rw [List.length_drop, wcL_len]; omega), List.length_drop, wcL_len, show t - (l.length + 1 - 1) = 0 by omega]
    rfl
theorem grL_len (l : List Bool) (p : P4) : (grL l p).length = l.length + 1 := by unfold grL; rw [List.length_map, List.length_range]
theorem grL_get (l : List Bool) (p : P4) {t : Nat} (h : t ≤ l.length) : (grL l p)[t]? = some ((gr l p l.length 0 t : Nat) : Int) := by
  unfold grL
  rw [List.getElem?_map, List.getElem?_range (by omega)]
  rfl
def sizeU (l : List Bool) (p : P4) (k : Nat) : List (Int × Int) := ((List.range k).filter fun t => decide (0 < gr l p l.length 0 t)).map fun t => (((t : Nat) : Int), ((gr l p l.length 0 t : Nat) : Int))
theorem sizeU_succ (l : List Bool) (p : P4) (k : Nat) : sizeU l p (k + 1) = if 0 < gr l p l.length 0 k then sizeU l p k ++ [(((k : Nat) : Int), ((gr l p l.length 0 k : Nat) : Int))] else sizeU l p k := by
  unfold sizeU
  rw [List.range_succ, List.filter_append, List.map_append]
  by_cases c : 0 < gr l p l.length 0 k
  · rw [if_pos c, List.filter_cons, if_pos (decide_eq_true c)]
    rfl
  · rw [if_neg c, List.filter_cons, if_neg (fun z => c (of_decide_eq_true z)), List.filter_nil, List.map_nil, List.append_nil]
theorem sizeU_len (l : List Bool) (p : P4) (k : Nat) : (sizeU l p k).length ≤ k := by
  unfold sizeU
  rw [List.length_map]
  exact Nat.le_trans (List.length_filter_le _ _) (Nat.le_of_eq List.length_range)
def wbL (l : List Bool) (p : P4) (K k : Nat) : List Int := ((List.range k).filter fun t => decide (whole l p t (K / 2 ^ t))).map fun t => ((t : Nat) : Int)
theorem wbL_succ (l : List Bool) (p : P4) (K k : Nat) : wbL l p K (k + 1) = if whole l p k (K / 2 ^ k) then wbL l p K k ++ [((k : Nat) : Int)] else wbL l p K k := by
  unfold wbL
  rw [List.range_succ, List.filter_append, List.map_append]
  by_cases c : whole l p k (K / 2 ^ k)
  · rw [if_pos c, List.filter_cons, if_pos (decide_eq_true c)]
    rfl
  · rw [if_neg c, List.filter_cons, if_neg (fun z => c (of_decide_eq_true z)), List.filter_nil, List.map_nil, List.append_nil]
theorem wbL_len (l : List Bool) (p : P4) (K k : Nat) : (wbL l p K k).length ≤ k := by
  unfold wbL
  rw [List.length_map]
  exact Nat.le_trans (List.length_filter_le _ _) (Nat.le_of_eq List.length_range)
theorem wbL_mem {l : List Bool} {p : P4} {K k : Nat} {m : Int} : m ∈ wbL l p K k ↔ ∃ t : Nat, m = (t : Int) ∧ t < k ∧ whole l p t (K / 2 ^ t) := by
  unfold wbL
  rw [List.mem_map]
  constructor
  · rintro ⟨t, ht, rfl⟩
    rw [List.mem_filter] at ht
    exact ⟨t, rfl, List.mem_range.mp ht.1, of_decide_eq_true ht.2⟩
  · rintro ⟨t, rfl, h1, h2⟩
    exact ⟨t, List.mem_filter.mpr ⟨List.mem_range.mpr h1, decide_eq_true h2⟩, rfl⟩
end Lk

set_option Elab.async false
set_option linter.all false
set_option maxRecDepth 100000
set_option maxHeartbeats 4000000
namespace Lk
open PySem PySem.Spec PyProof.Rows L2
/-! ### the law's own stretches -/
def boL (l : List Bool) (p : P4) : List Bool := (List.range (2 ^ l.length)).map fun k => decide (inK l p k)
def ptL (l : List Bool) (p : P4) (t m : Nat) : List Bool := (List.range (2 ^ t)).map fun r => decide (inK l p (m * 2 ^ t + r))
def strP (es : List (Nat × Nat)) : List (Int × Int) := es.map fun e => (((e.1 : Nat) : Int), ((e.2 : Nat) : Int))
theorem boL_len (l : List Bool) (p : P4) : (boL l p).length = 2 ^ l.length := by unfold boL; rw [List.length_map, List.length_range]
theorem cut_nat {xs : List V} {a b : Nat} (h1 : a ≤ b) (h2 : b ≤ xs.length) : cutV xs (some (a : Int)) (some (b : Int)) = (xs.drop a).take (b - a) := by
  unfold cutV
  rw [HT.sIx_nat, HT.sIx_nat, Nat.min_eq_left h2, Nat.min_eq_left (Nat.le_trans h1 h2)]
theorem boL_cut {l : List Bool} {p : P4} {t m : Nat} (h : (m + 1) * 2 ^ t ≤ 2 ^ l.length) : cutV ((boL l p).map V.bl) (some ((m * 2 ^ t : Nat) : Int)) (some ((m * 2 ^ t + 2 ^ t : Nat) : Int)) = (ptL l p t m).map V.bl := by
  rw [Nat.add_mul, Nat.one_mul] at h
  rw [cut_nat (Nat.le_add_right _ _) (by rw [List.length_map, boL_len]; exact h), Nat.add_sub_cancel_left, ← List.map_drop, ← List.map_take]
  congr 1
  apply List.ext_getElem?
  intro r
  unfold boL ptL
  by_cases c : r < 2 ^ t
  · rw [List.getElem?_take_of_lt c, List.getElem?_drop, List.getElem?_map, List.getElem?_range (Nat.lt_of_lt_of_le (Nat.add_lt_add_left c _) h), List.getElem?_map, List.getElem?_range c]
    rfl
  · rw [List.getElem?_eq_none (by rw [List.length_take]; exact Nat.le_trans (Nat.min_le_left _ _) (Nat.le_of_not_lt c)), List.getElem?_eq_none (by rw [List.length_map, List.length_range]; exact Nat.le_of_not_lt c)]
theorem in_bl (b : Bool) (bs : List Bool) : inV (.bl b) (bs.map V.bl) = bs.any fun c => c == b := by
  unfold inV
  rw [List.any_map]
  rfl
theorem no_false {l : List Bool} {p : P4} {t m : Nat} : (!inV (.bl false) ((ptL l p t m).map V.bl)) = decide (whole l p t m) := by
  rw [in_bl]
  by_cases h : whole l p t m
  · rw [decide_eq_true h, Bool.not_eq_true', List.any_eq_false]
    intro b hb
    obtain ⟨r, hr, rfl⟩ := List.mem_map.mp hb
    rw [decide_eq_true (h r (List.mem_range.mp hr))]
    decide
  · rw [decide_eq_false h, Bool.not_eq_false', List.any_eq_true]
    unfold whole at h
    have ⟨r, hr⟩ := Classical.not_forall.mp h
    have ⟨hr1, hr2⟩ := Classical.not_imp.mp hr
    exact ⟨_, List.mem_map.mpr ⟨r, List.mem_range.mpr hr1, rfl⟩, by rw [decide_eq_false hr2]; decide⟩
theorem no_true {l : List Bool} {p : P4} {t m : Nat} (h : (!inV (.bl true) ((ptL l p t m).map V.bl)) = true) : ∀ r, r < 2 ^ t → ¬ inK l p (m * 2 ^ t + r) := by
  rw [in_bl, Bool.not_eq_true', List.any_eq_false] at h
  intro r hr hk
  exact h _ (List.mem_map.mpr ⟨r, List.mem_range.mpr hr, rfl⟩) (by rw [decide_eq_true hk]; decide)
theorem yes_true {l : List Bool} {p : P4} {m : Nat} (h : ¬ (!inV (.bl true) ((ptL l p 0 m).map V.bl)) = true) : whole l p 0 m := by
  refine whole_zero.mpr ?_
  rw [in_bl, Bool.not_eq_true', List.any_eq_false] at h
  by_cases c : inK l p m
  · exact c
  · refine absurd ?_ h
    intro b hb
    obtain ⟨r, hr, rfl⟩ := List.mem_map.mp hb
    have hr0 := List.mem_range.mp hr
    rw [Nat.pow_zero] at hr0
    have : r = 0 := by omega
    subst this
    rw [Nat.pow_zero, Nat.mul_one, Nat.add_zero, decide_eq_false c]
    decide
theorem all_flat (bs : List Bool) : (bs.map V.bl).all flatV = true := by
  rw [List.all_map, List.all_eq_true]
  intro b _
  rfl
theorem strL_whole {l : List Bool} {p : P4} {t m : Nat} (h : whole l p t m) : strL l p t m = [(m * 2 ^ t, t)] := by
  cases t with
  | zero =>
    show (if whole l p 0 m then [(m, 0)] else []) = _
    rw [if_pos h, Nat.pow_zero, Nat.mul_one]
  | succ t =>
    show (if whole l p (t + 1) m then [(m * 2 ^ (t + 1), t + 1)] else _) = _
    rw [if_pos h]
theorem strL_else {l : List Bool} {p : P4} {t m : Nat} (h : ¬ whole l p (t + 1) m) : strL l p (t + 1) m = strL l p t (2 * m) ++ strL l p t (2 * m + 1) := by
  show (if whole l p (t + 1) m then _ else strL l p t (2 * m) ++ strL l p t (2 * m + 1)) = _
  rw [if_neg h]
theorem TupsAt.app {H : Hp} : ∀ {ts us : List Addr} {ps qs : List (Int × Int)}, TupsAt H ts ps → TupsAt H us qs → TupsAt H (ts ++ us) (ps ++ qs)
  | [], _, [], _, _, h => h
  | [], _, _ :: _, _, h, _ => h.elim
  | _ :: _, _, [], _, h, _ => h.elim
  | t :: ts, us, p :: ps, qs, h, h' => ⟨h.1, TupsAt.app h.2 h'⟩
theorem strL_len_le (l : List Bool) (p : P4) : ∀ (t m : Nat), (strL l p t m).length ≤ 2 ^ t
  | 0, m => by
    show (if whole l p 0 m then [(m, 0)] else []).length ≤ 1
    split
    · exact Nat.le_refl _
    · exact Nat.zero_le _
  | t + 1, m => by
    by_cases h : whole l p (t + 1) m
    · rw [strL_whole h]
      exact two_pos _
    · rw [strL_else h, List.length_append, Nat.pow_succ]
      have h1 := strL_len_le l p t (2 * m)
      have h2 := strL_len_le l p t (2 * m + 1)
      omega
theorem keyIn_inK {l : List Bool} {p : P4} (b : InBlk l p) {K : Nat} (hK : K < 2 ^ l.length) : keyIn l (some p) K ↔ inK l p K := by
  obtain ⟨b1, b2, b3, b4⟩ := b
  unfold inK
  constructor
  · rintro ⟨q, x, y, e, h1, h2, h3, h4, ek⟩
    cases e
    rw [← ek, xOf_key, yOf_key, Nat.mod_eq_of_lt (Nat.lt_of_le_of_lt h2 b3), Nat.mod_eq_of_lt (Nat.lt_of_le_of_lt h4 b4)]
    exact ⟨h1, h2, h3, h4⟩
  · rintro ⟨h1, h2, h3, h4⟩
    exact ⟨p, xOf l K, yOf l K, rfl, h1, h2, h3, h4, by rw [keyL_cell, Nat.mod_eq_of_lt hK]⟩
def memL (ks : List Nat) (i N : Nat) : List Bool := (List.range N).map fun k => decide (k ∈ ks.take i)
theorem memL_len (ks : List Nat) (i N : Nat) : (memL ks i N).length = N := by unfold memL; rw [List.length_map, List.length_range]
theorem memL_zero (ks : List Nat) (N : Nat) : (memL ks 0 N).map V.bl = List.replicate N (V.bl false) := by
  apply List.ext_getElem?
  intro k
  unfold memL
  rw [List.map_map, List.getElem?_map]
  by_cases c : k < N
  · rw [List.getElem?_range c, List.getElem?_replicate, if_pos c]
    show some (V.bl (decide (k ∈ ks.take 0))) = _
    rw [List.take_zero, decide_eq_false List.not_mem_nil]
  · rw [List.getElem?_eq_none (by rw [List.length_range]; omega), List.getElem?_eq_none (by rw [List.length_replicate]; omega)]
    rfl
theorem memL_set {ks : List Nat} {i N k : Nat} (h : ks[i]? = some k) (hk : k < N) : ((memL ks i N).map V.bl).set k (.bl true) = (memL ks (i + 1) N).map V.bl := by
  apply List.ext_getElem?
  intro j
  by_cases c : j < N
  · rw [List.getElem?_set]
    unfold memL
    rw [List.map_map, List.map_map, List.getElem?_map, List.getElem?_map, List.getElem?_range c, List.length_map, List.length_range, take_snoc h]
    by_cases d : k = j
    · subst d
      rw [if_pos rfl, if_pos c]
      show _ = some (V.bl (decide (k ∈ ks.take i ++ [k])))
      rw [decide_eq_true (List.mem_append_right _ (List.mem_singleton.mpr rfl))]
    · rw [if_neg d]
      show some (V.bl (decide (j ∈ ks.take i))) = some (V.bl (decide (j ∈ ks.take i ++ [k])))
      congr 2
      refine decide_eq_decide.mpr ⟨fun z => List.mem_append_left _ z, fun z => ?_⟩
      rcases List.mem_append.mp z with z | z
      · exact z
      · exact absurd (List.mem_singleton.mp z).symm d
  · rw [List.getElem?_eq_none (by rw [List.length_set, List.length_map, memL_len]; omega), List.getElem?_eq_none (by rw [List.length_map, memL_len]; omega)]
theorem memL_all {l : List Bool} {x1 y1 x2 y2 : Nat} {ks : List Nat} (b : Bx l x1 y1 x2 y2) (h : Sorts l x1 y1 x2 y2 ks) : memL ks ks.length (2 ^ l.length) = boL l (x1, y1, x2, y2) := by
  unfold memL boL
  apply List.map_congr_left
  intro k hk
  rw [List.take_length]
  exact decide_eq_decide.mpr ((h.mem b).trans (keyIn_inK ⟨b.x, b.y, b.bx, b.by_⟩ (List.mem_range.mp hk)))
theorem rep_flat (N : Nat) (v : V) : (List.replicate (N : Int).toNat [v]).flatten = List.replicate N v := by
  rw [Int.toNat_natCast]
  induction N with
  | zero => rfl
  | succ N ih =>
    rw [List.replicate_succ, List.flatten_cons, ih, List.replicate_succ]
    rfl
def hasK (k : Nat) (e : Nat × Nat) : Bool := decide (e.1 ≤ k) && decide (k < e.1 + 2 ^ e.2)
def spL (es : List (Nat × Nat)) (k j : Nat) : List (Int × Int) := ((es.take j).filter (hasK k)).map fun e => (((e.1 : Nat) : Int), ((e.1 + 2 ^ e.2 - 1 : Nat) : Int))
theorem spL_succ {es : List (Nat × Nat)} {k j : Nat} {e : Nat × Nat} (h : es[j]? = some e) : spL es k (j + 1) = if hasK k e = true then spL es k j ++ [(((e.1 : Nat) : Int), ((e.1 + 2 ^ e.2 - 1 : Nat) : Int))] else spL es k j := by
  unfold spL
  have : es.take (j + 1) = es.take j ++ [e] := by rw [List.take_succ, h]; rfl
  rw [this, List.filter_append, List.map_append]
  by_cases c : hasK k e = true
  · rw [if_pos c, List.filter_cons, if_pos c]
    rfl
  · rw [if_neg c, List.filter_cons, if_neg c, List.filter_nil, List.map_nil, List.append_nil]
theorem spL_len (es : List (Nat × Nat)) (k j : Nat) : (spL es k j).length ≤ es.length := by
  unfold spL
  rw [List.length_map]
  exact Nat.le_trans (List.length_filter_le _ _) (by rw [List.length_take]; omega)
theorem spL_all {l : List Bool} {p : P4} {k : Nat} (hk : inK l p k) (hl : k < 2 ^ l.length) : ∃ T, T ≤ l.length ∧ whole l p T (k / 2 ^ T) ∧ (∀ s, s ≤ l.length → whole l p s (k / 2 ^ s) → s ≤ T) ∧
    spL (strL l p l.length 0) k (strL l p l.length 0).length = [(((k / 2 ^ T * 2 ^ T : Nat) : Int), ((k / 2 ^ T * 2 ^ T + 2 ^ T - 1 : Nat) : Int))] := by
  obtain ⟨T, h1, h2, h3, h4⟩ := strL_at hk (Nat.div_eq_of_lt hl)
  refine ⟨T, h1, h2, h3, ?_⟩
  unfold spL
  rw [List.take_length, show (strL l p l.length 0).filter (hasK k) = _ from h4]
  rfl
theorem strP_get {es : List (Nat × Nat)} {j : Nat} {e : Nat × Nat} (h : es[j]? = some e) : (strP es)[j]? = some (((e.1 : Nat) : Int), ((e.2 : Nat) : Int)) := by
  unfold strP
  rw [List.getElem?_map, h]
  rfl
theorem strL_bits {l : List Bool} {p : P4} : ∀ {t m : Nat} {e : Nat × Nat}, e ∈ strL l p t m → e.2 ≤ t
  | 0, m, e, h => by
    have h : e ∈ (if whole l p 0 m then [(m, 0)] else []) := h
    split at h
    · rw [List.mem_singleton.mp h]
      exact Nat.le_refl _
    · exact absurd h List.not_mem_nil
  | t + 1, m, e, h => by
    have h : e ∈ (if whole l p (t + 1) m then [(m * 2 ^ (t + 1), t + 1)] else strL l p t (2 * m) ++ strL l p t (2 * m + 1)) := h
    split at h
    · rw [List.mem_singleton.mp h]
      exact Nat.le_refl _
    · rcases List.mem_append.mp h with z | z
      · have := strL_bits z
        omega
      · have := strL_bits z
        omega
theorem ex15a : whole [false, true, false, true] (0, 0, 2, 2) 1 (keyL [false, true, false, true] 1 2 / 2 ^ 1) := by decide +kernel
theorem ex15b : ∀ T ≤ 4, whole [false, true, false, true] (0, 0, 2, 2) T (keyL [false, true, false, true] 1 2 / 2 ^ T) → T ≤ 1 := by decide +kernel
theorem ex15 {T : Nat} (hT : T ≤ [false, true, false, true].length) (hw : whole [false, true, false, true] (0, 0, 2, 2) T (keyL [false, true, false, true] 1 2 / 2 ^ T)) (hmx : ∀ s, s ≤ [false, true, false, true].length → whole [false, true, false, true] (0, 0, 2, 2) s (keyL [false, true, false, true] 1 2 / 2 ^ s) → s ≤ T) : T = 1 :=
  Nat.le_antisymm (ex15b T hT hw) (hmx 1 (by decide) ex15a)
end Lk

set_option Elab.async false
set_option linter.all false
set_option maxRecDepth 100000
set_option maxHeartbeats 4000000
namespace Lk
open PySem PySem.Spec PyProof.Rows L2
/-- an exception of the class cls with the dict d, kept as a value at a -/
def ExK (cls : Value) (d : Option Addr) (a : Addr) : HO := .ext fun h => ∃ (oe : Obj) (vs : Array Value), h.get? a = some oe ∧ Zc cls d oe ∧ oe.data = .fields vs
theorem exK_ok {P : Program} {w : World} {H : Hp} {h : Heap} {a : Addr} {cls : Value} {d : Option Addr} {oe : Obj} {vs : Array Value} (e : h.get? a = some oe) (z : Zc cls d oe) (dd : oe.data = .fields vs) : ObjOk P w H h a (ExK cls d a) :=
  ⟨⟨oe, vs, e, z, dd⟩, ⟨oe, e⟩, fun _ _ ⟨o, v, q, r⟩ k => ⟨o, v, k o q, r⟩⟩
section
variable {X : Cx} {pins : List (Addr × Obj)} {σ : L2.St} {H : Hp} {s : Shared}
/-- an object that is pinned alone, of the heap since the entry, is tracked from here on -/
theorem track {a : Addr} {oe : Obj} {vs : Array Value} {cls : Value} {d : Option Addr} (I : Inv X pins σ H s) (n0 : X.s_0.heap.get? a = none) (na : H a = none) (he : s.heap.get? a = some oe) (hz : Zc cls d oe) (hd : oe.data = .fields vs)
    (nL : a ≠ X.env.locals) (hp : ∀ p ∈ X.pn ++ pins, p.1 ≠ a) : Inv X pins σ (upd H a (ExK cls d a)) s := by
  have ne : ∀ b o, H b = some o → b ≠ a := fun b o e z => by rw [z, na] at e; cases e
  refine ⟨I.ok, I.os, I.bare, ⟨I.base.keep, I.base.slot, fun b o e n hb => ?_, I.base.there, fun b xs e => ?_, fun b o u e => ?_, fun b ps e => ?_⟩, I.loc, I.cell, ?_, fun x c e => ?_, fun p hp' => ?_, fun b u e => ?_, I.len⟩
  · rw [upd_ne (fun z => by rw [z, n0] at e; cases e)]
    exact I.base.free b o e n hb
  · have q := I.base.tups b xs e
    rw [upd_ne (ne _ _ q)]
    exact q
  · have q := I.base.frzs b o u e
    rw [upd_ne (ne _ _ q)]
    exact q
  · obtain ⟨m, q⟩ := I.base.tbls b ps e
    exact ⟨m, by rw [upd_ne (ne _ _ q)]; exact q⟩
  · rw [upd_ne nL.symm]
    exact I.free
  · rw [upd_ne (fun z => ?_)]
    · exact I.freeC x c e
    · obtain ⟨v, ob, q1, q2⟩ := I.cell x c e
      rw [z, he] at q1
      cases q1
      rw [hd] at q2
      cases q2
  · obtain ⟨e, n, nl, nf, dd⟩ := I.pin p hp'
    exact ⟨e, by rw [upd_ne (hp p hp')]; exact n, nl, nf, dd⟩
  · by_cases hb : b = a
    · subst hb
      rw [upd_same] at e
      cases e
      exact exK_ok he hz hd
    · rw [upd_ne hb] at e
      exact (I.hok b u e).stay (fun _ _ _ q => q) (fun c q => by rw [upd_ne (ne _ _ q)]; exact q) fun c xs q => by rw [upd_ne (ne _ _ q)]; exact q
end
/-- what the clause 'except x as n' wishes of an exception of the body, which is kept and tracked behind the suite -/
def wKp (K : PySem.W.Frag) (c : Value) (i : Nat) (ts : Addr → Value → Option Addr → TS) (Wout : WX) (D : Ends) : WX := fun cls d σ H =>
  ∃ b, PySem.W.exmOne K cls c = some b ∧ (b = true → ∀ a, H a = none → ts a cls d
    { nx := fun σ' H' => H' a = none → D.nx (σ'.set i none) (upd H' a (ExK cls d a)), rt := fun v H' => H' a = none → D.rt v (upd H' a (ExK cls d a)),
      bk := fun σ' H' => H' a = none → D.bk (σ'.set i none) (upd H' a (ExK cls d a)), ct := fun σ' H' => H' a = none → D.ct (σ'.set i none) (upd H' a (ExK cls d a)) } (σ.set i (some (.ref a))) H) ∧
    (b = false → Wout cls d σ H)
/-- an exception in flight over X: what is known of it, and of the state that it left (sI) -/
structure Air (X : Cx) (pins : List (Addr × Obj)) (σ : L2.St) (H : Hp) (a : Addr) (cls : Value) (d : Option Addr) (B : Heap) (sI s : Shared) : Prop where
  left : Inv X pins σ H sI
  ground : ∀ b o, sI.heap.get? b = some o → b ∉ frs X.stack → B.get? b = some o
  grew : sI.heap.UpToSlots s.heap
  fly : HandSPX.FlyingZ B X.stack a (Zc cls d) s.heap
  no : H a = none
  os : s.os = sI.os
  bare : AllBare s.gens
namespace Air
variable {X : Cx} {pins : List (Addr × Obj)} {σ : L2.St} {H : Hp} {a : Addr} {cls : Value} {d : Option Addr} {B : Heap} {sI s : Shared}
theorem inv (A : Air X pins σ H a cls d B sI s) : Inv X pins σ H s := A.left.landed A.ground A.fly.1 A.grew A.os A.bare
theorem on (A : Air X pins σ H a cls d B sI s) {h : Heap} (f : HandSPX.FlyingZ B X.stack a (Zc cls d) h) (u : s.heap.UpToSlots h) : Air X pins σ H a cls d B sI { s with heap := h } :=
  ⟨A.left, A.ground, A.grew.trans u, f, A.no, A.os, A.bare⟩
theorem noFrame (A : Air X pins σ H a cls d B sI s) : a ∉ frs X.stack := fun m => by
  obtain ⟨o1, v1, g1, _, f1⟩ := A.fly.there
  obtain ⟨_, o2, g2, f2⟩ := A.fly.2.2.1.mem m
  exact f2 v1 (by rw [← Option.some.inj (g1.symm.trans g2)]; exact f1)
theorem notL (A : Air X pins σ H a cls d B sI s) (st : X.stack = X.env :: X.outer) (fr : X.env.frame = some X.env.locals) : a ≠ X.env.locals := fun z => by
  refine A.noFrame ?_
  rw [st, z]
  exact List.mem_filterMap.mpr ⟨X.env, by simp, fr⟩
theorem notF (A : Air X pins σ H a cls d B sI s) (st : X.stack = X.env :: X.outer) : a ∉ X.fs := fun m => by
  obtain ⟨e, m1, m2⟩ := List.mem_filterMap.mp m
  refine A.noFrame ?_
  rw [st]
  exact List.mem_filterMap.mpr ⟨e, List.mem_cons.mpr (.inr m1), m2⟩
theorem newI (A : Air X pins σ H a cls d B sI s) : sI.heap.get? a = none := by
  rcases e : sI.heap.get? a with _ | o
  · rfl
  · have z := A.ground a o e A.noFrame
    have y := A.fly.2.1
    rw [y] at z
    nomatch z
theorem new0 (A : Air X pins σ H a cls d B sI s) (ex : X.ex = []) : X.s_0.heap.get? a = none := by
  rcases e : X.s_0.heap.get? a with _ | o
  · rfl
  · obtain ⟨u, z⟩ := A.left.base.there a o e (by rw [ex]; simp)
    rw [A.newI] at z
    nomatch z
theorem pinless (A : Air X pins σ H a cls d B sI s) : ∀ p ∈ X.pn ++ pins, p.1 ≠ a := fun p m z => by
  have y := (A.left.pin p m).1
  rw [z, A.newI] at y
  nomatch y
end Air
section
variable {X : Cx} {pins : List (Addr × Obj)} {σ : L2.St} {H : Hp} {a : Addr} {cls : Value} {d : Option Addr} {B : Heap} {sI s : Shared}
/-- the name of the clause is looked up while the exception is handled -/
theorem see_class {x : Str} {np : Pos} {c : Value} {pl : List (Addr × Obj)} {o : Obj} (hc : Names X x c) (J : Inv (X.suite a ((a, o) :: pl)) [] σ H s) {Q E : Value → Shared → Prop} (q : Q c s) :
    wpAny (model X.prog X.w) (X.A.mark (some (.ref a))) (eval (.Name x np) X.env) Q E s := by
  rcases hc with ⟨g, nd, m⟩
  rcases m with m | ⟨m0, m1, m2⟩
  · exact ld_glob (X := X.suite a ((a, o) :: pl)) J g m q nd
  · exact ld_blt (X := X.suite a ((a, o) :: pl)) J g m0 m1 q m2 nd
/-- behind the suite: the name goes, the exception stays and is tracked -/
theorem suite_end {σ' : L2.St} {H' : Hp} {s1 s2 : Shared} {o : Obj} {vs : Array Value} {i : Nat} {n : Str} {p : Pos} {Q : Shared → Prop} {E : Value → Shared → Prop} {M : Model} {A0 : Around} (A : Air X pins σ H a cls d B sI s1) (st : X.stack = X.env :: X.outer) (fr : X.env.frame = some X.env.locals) (ex : X.ex = []) (nd : X.N.Nodup) (at_ : X.N[i]? = some n) (lo : X.env.kindOf n = some .local)
    (zo : Zc cls d o) (fo : o.data = .fields vs) (J : Inv (X.suite a ((a, o) :: (X.pn ++ pins))) [] σ' H' s2) (q : ∀ s3, H' a = none → Inv X pins (σ'.set i none) (upd H' a (ExK cls d a)) s3 → Q s3) :
    wpAny M A0 (do bindName X.env n .none; unbindBehindTheSuite X.env n p) (fun _ => Q) E s2 := by
  refine gone_ok (X := X.suite a ((a, o) :: (X.pn ++ pins))) J nd at_ lo fun s3 J3 => ?_
  have P := J3.pin (a, o) (by simp)
  exact q s3 P.2.1 (track (J3.unsuite A.left.ok) (A.new0 ex) P.2.1 P.1 zo fo (A.notL st fr) A.pinless)
end
section
variable {X : Cx} {x n : Str} {c : Value} {i : Nat} {body rest : List Stmt} {b0 : Stmt} {np p1 p2 : Pos} {tb : WX → TS} {ts : Addr → Value → Option Addr → TS} {Wo : WX}
/-- the clause itself -/
theorem clause_keep (st : X.stack = X.env :: X.outer) (fr : X.env.frame = some X.env.locals) (ex : X.ex = []) (nd : X.N.Nodup) (at_ : X.N[i]? = some n) (lo : X.env.kindOf n = some .local) (hc : Names X x c) (tk : Takes X Wo)
    (su : ∀ (a : Addr) (o : Obj) (cls : Value) (d : Option Addr) (pl : List (Addr × Obj)), Zc cls d o → (∃ vs, o.data = .fields vs) → PSs (X.suite a ((a, o) :: pl)) (b0 :: rest) (ts a cls d))
    {pins : List (Addr × Obj)} {σ : L2.St} {H : Hp} {a : Addr} {cls : Value} {d : Option Addr} {B : Heap} {sI s : Shared} {D : Ends} (A : Air X pins σ H a cls d B sI s) (w : wKp X.K c i ts Wo D cls d σ H) :
    wpAny (model X.prog X.w) X.A (handleBy (.ref a) X.env [.ExceptHandler (some (.Name x np)) (some n) (b0 :: rest) p1]) (SP X pins D) X.xe s := by
  rcases w with ⟨hit, same, yes, no⟩
  obtain ⟨o1, v1, g1, z1, f1⟩ := A.fly.there
  have nL := A.notL st fr
  have nF := A.notF st
  have T1 : PySem.W.Looks (model X.prog X.w) s.heap (typeOf (.ref a)) cls := by
    intro A' Q E s' k q
    refine wpAny_typeOf_ref (k _ _ g1) ?_
    rw [z1.1]
    exact q
  have T2 := PySem.W.exm_one (M := model X.prog X.w) A.inv.kIn T1 same
  refine wpAny_handleBy_cons (codeAny_handlers_test (see_class hc (A.inv.suite g1 f1 A.no nL nF) (T2.here ?_))) (fun z => nomatch z)
  rcases hit with _ | _
  · -- not of the class: on it goes
    show wpAny _ X.A (handleBy (.ref a) X.env []) _ _ _
    refine wpAny_handleBy_nil ?_
    obtain ⟨f2, f3, f4, o2, v2, t2, ot, tt, g2, z2, d2, at1, at2⟩ := id A.fly
    have out : wpAny (model X.prog X.w) X.A (setFlight (.ref a) X.env.frame) (fun _ s4 => wpAny (model X.prog X.w) X.A (throw (.ref a) : Sem Flow) (SP X pins D) X.xe s4) X.xe s := by
      rw [fr]
      refine HandSPX.setFlight_upZ A.fly fun h4 held u4 => ?_
      refine wpAny_throw (tk _ _ ⟨a, B, sI, pins, σ, H, cls, d, rfl, A.left, A.ground, A.grew.trans u4, .inr (.inr held), A.no, A.os, A.bare, no rfl⟩)
    unfold PySem.passOn
    refine wpAny_bind (wpAny_field g2 d2 at1 ?_)
    rw [if_neg (by simp : ¬ ((Value.ref t2 == Value.none) = true))]
    first
      | exact wpAny_bind out
      | exact wpAny_bind (wpAny_pure (wpAny_bind out))
  · -- of the class: the suite
    refine codeAny_handlers_suite_as (HandSPX.lands_againZ A.fly fun h2 fl u2 => ?_)
    have A2 := A.on fl u2
    obtain ⟨o2, v2, g2, z2, f2⟩ := fl.there
    refine store_ok (X := X.suite a ((a, o2) :: (X.pn ++ pins))) (v := .ref a) (A2.inv.suite g2 f2 A.no nL nF) nd at_ (.inl lo) rfl (fun s5 J5 => ?_) (.inr lo)
    have run := (su a o2 cls d (X.pn ++ pins) z2 ⟨v2, f2⟩).run [] s5 _ H _ J5 (yes rfl a A.no)
    refine wpAny_mono run (fun f s6 r => ?_) (fun _ _ z => z.elim)
    cases f with
    | next => exact match r with
      | ⟨_, _, J, q⟩ => suite_end A st fr ex nd at_ lo z2 f2 J fun _ h1 J1 => ⟨_, _, J1, q h1⟩
    | brk => exact match r with
      | ⟨_, _, J, q⟩ => suite_end A st fr ex nd at_ lo z2 f2 J fun _ h1 J1 => ⟨_, _, J1, q h1⟩
    | cont => exact match r with
      | ⟨_, _, J, q⟩ => suite_end A st fr ex nd at_ lo z2 f2 J fun _ h1 J1 => ⟨_, _, J1, q h1⟩
    | ret u => exact match r with
      | ⟨_, _, _, J, y, q⟩ => suite_end A st fr ex nd at_ lo z2 f2 J fun _ h1 J1 => ⟨_, _, _, J1, y, q h1⟩
/-- try: .. except x as n: .., where the exception is kept -/
theorem ps_try_keep (st : X.stack = X.env :: X.outer) (fr : X.env.frame = some X.env.locals) (ex : X.ex = []) (nd : X.N.Nodup) (at_ : X.N[i]? = some n) (lo : X.env.kindOf n = some .local) (hc : Names X x c) (tk : Takes X Wo)
    (bo : ∀ (W : WX) (pl : List (Addr × Obj)) (xe : Value → Shared → Prop), Takes (X.tr pl xe) W → PassesOwn (model X.prog X.w) X.A X.env xe → PSs (X.tr pl xe) body (tb W))
    (su : ∀ (a : Addr) (o : Obj) (cls : Value) (d : Option Addr) (pl : List (Addr × Obj)), Zc cls d o → (∃ vs, o.data = .fields vs) → PSs (X.suite a ((a, o) :: pl)) (b0 :: rest) (ts a cls d)) :
    PS X (.Try body [.ExceptHandler (some (.Name x np)) (some n) (b0 :: rest) p1] [] [] p2) (fun D => tb (wKp X.K c i ts Wo D) D) := by
  constructor
  intro pins s σ H D I h
  have ok := I.ok
  have fs : X.A.frames = some (X.env :: X.outer) := ok.frames.trans (congrArg some st)
  refine wpAny_Try_except ?_
  have run := bo (wKp X.K c i ts Wo D) (X.pn ++ pins) (fun e s1 => wpAny (model X.prog X.w) X.A (noteFrame e X.env) (fun _ s2 => wpAny (model X.prog X.w) X.A (setFlight e none)
    (fun _ s3 => wpAny (model X.prog X.w) X.A (handleBy e X.env [.ExceptHandler (some (.Name x np)) (some n) (b0 :: rest) p1]) (SP X pins D) X.xe s3) X.xe s2) X.xe s1)
    (fun u s' y => by
      rcases y with ⟨a, B, sI, pl, σ', H', cls, d, rfl, J, gr, up, sky, na, os, ba, w⟩
      rw [show (X.tr (X.pn ++ pins) _).stack = X.env :: X.outer from st] at sky
      refine Sky.land Zc.steady fs fr sky fun h3 fl u3 => ?_
      exact clause_keep st fr ex nd at_ lo hc tk su (B := B) ⟨J.ofTry ok, gr, up.trans u3, by rw [st]; exact fl, na, os, ba⟩ w) PassesOwn.looking
  refine wpAny_mono (run.run [] s σ H D (I.toTry _) h) (fun f s1 r => ?_) (fun _ _ z => z)
  cases f with
  | next => exact match r with
    | ⟨_, _, J, q⟩ => wpAny_execs_nil ⟨_, _, J.ofTry ok, q⟩
  | brk => exact match r with
    | ⟨_, _, J, q⟩ => ⟨_, _, J.ofTry ok, q⟩
  | cont => exact match r with
    | ⟨_, _, J, q⟩ => ⟨_, _, J.ofTry ok, q⟩
  | ret u => exact match r with
    | ⟨_, _, _, J, y, q⟩ => ⟨_, _, _, J.ofTry ok, y, q⟩
end
/-! ### isinstance of an exception that is kept -/
def rIsK (K : PySem.W.Frag) : List V → Hp → VK → Prop := fun xs H Q => ∃ (a D : Addr) (c : V) (cv : Value) (b : Bool), xs = [.ref a, c] ∧ H a = some (ExK (.ref D) none a) ∧ ExcC K D ∧ ClsV c cv ∧ PySem.W.kitOne K (.ref D) cv = some b ∧ Q (.bl b) H
theorem call_isK {X : Cx} : CallR X (.builtin "isinstance") (rIsK X.K) := by
  intro pins s σ H xs us Q I r h
  obtain ⟨a, D, c, cv, b, rfl, ha, C, k, e, q⟩ := h
  obtain ⟨u1, u2, rfl, r1, r2⟩ := vals2 r
  cases (show u1 = Value.ref a from r1)
  have e2 := k.eq r2
  subst e2
  obtain ⟨⟨oc, od, oda, osl⟩, vs, g, ⟨z1, z2⟩, f⟩ := (I.hok a _ ha).1
  dsimp only at z1 z2 f
  subst z1 z2 f
  have J : PySem.W.InstAt s.heap a { cls := .ref D, dict := none, data := .fields vs, slots := osl } D none := ⟨g, rfl, rfl, trivial⟩
  exact PySem.W.kia_one (PySem.W.handS_kitx_exc C.hg C.hk C.hs C.hd C.ha C.hn C.ht C.hm) I.kIn J e (fun z => nomatch z) fun tk => ⟨.bl b, H, I.tok tk, rfl, q⟩
/-! ### one def, two promises: it answers, or it raises -/
section
variable {P : Program} {w : World} {K : PySem.W.Frag} {mg : Str → Option Value} {base : Heap} {k : Nat} {f : Addr} {fd : FuncData} {ps : List Str} {CX : CXT} {sp1 sp2 : Sp}
theorem either (G : FnOk P w K mg base CX0 k f fd ps sp1) (B : FnOk P w K mg base CX k f fd ps sp2) : FnOk P w K mg base CX k f fd ps (fun vs H Q E => sp1 vs H Q E ∨ sp2 vs H Q E) := by
  refine ⟨fun vs H Q E h => h.elim (fun h => G.len vs H Q E h) (fun h => B.len vs H Q E h), fun A outer s H args us vs Q E hr e hb hv h => ?_⟩
  rcases h with h | h
  · refine codeAny_mono (G.run A outer s H args us vs Q E hr e hb hv h) fun r s' q => ?_
    rcases r with e | fl
    · exact q.elim
    · cases fl <;> exact q
  · exact B.run A outer s H args us vs Q E hr e hb hv h
end
/-! ### repr of any value that is plain -/
inductive ReprV (K : PySem.W.Frag) (H : Hp) : V → Str → Prop
  | data {a : Addr} {d : PyData} : Dp K H (.ref a) d → d.showable = true → d.hasDict = false → d.depth ≤ 8 → d.shown.length ≤ sizeLine → ReprV K H (.ref a) d.shown
  | non : ReprV K H .non "None"
  | bl (b : Bool) : ReprV K H (.bl b) (if b then "True" else "False")
  | int (i : Int) : i.natAbs.log2 < 1920 → ReprV K H (.int i) (toString i)
  | str (x : Str) : (reprText x).length ≤ sizeLine → ReprV K H (.str x) (reprText x)
  | dict {a : Addr} : H a = some (.dK []) → ReprV K H (.ref a) (PyData.dict []).shown
def rReprV (K : PySem.W.Frag) : List V → Hp → VK → Prop := fun xs H Q => ∃ (v : V) (x : Str), xs = [v] ∧ ReprV K H v x ∧ Q (.str x) H
theorem call_reprV {X : Cx} (hg : X.A.guards = some []) (hu : X.A.units + 64 < cLine) : CallR X (.builtin "repr") (rReprV X.K) := by
  intro pins s σ H xs us Q I r h
  obtain ⟨v, x, rfl, hv, q⟩ := h
  obtain ⟨u, rfl, ru⟩ : ∃ u, us = [u] ∧ RelV v u := by
    cases r with
    | cons r1 r2 =>
      cases r2
      exact ⟨_, rfl, r1⟩
  cases hv with
  | data hd h1 h2 h3 h4 => exact call_reprD hg hu pins s σ H _ _ Q I (.cons ru .nil) ⟨_, _, rfl, hd, h1, h2, h3, h4, q⟩
  | non =>
    cases (show u = Value.none from ru)
    exact PySem.P.repr_of_none ⟨.str _, H, I.tok _, ⟨_, rfl⟩, q⟩
  | bl b =>
    cases (show u = Value.bool b from ru)
    exact PySem.P.repr_of_bool ⟨.str _, H, I.tok _, ⟨_, rfl⟩, q⟩
  | int i hi =>
    obtain ⟨t, rfl⟩ := (show ∃ t, u = Value.int i t from ru)
    exact PySem.P.repr_of_int hi ⟨.str _, H, I.tok _, ⟨_, rfl⟩, q⟩
  | str y hy =>
    obtain ⟨t, rfl⟩ := (show ∃ t, u = Value.str y t from ru)
    exact PySem.P.repr_of_str ⟨.str _, H, I.tok _, ⟨_, rfl⟩, q⟩ hy
  | @dict a ha =>
    cases (show u = Value.ref a from ru)
    obtain ⟨_, ns, vs, kv, o, es, ep, g, ex, dd, el, pr, _⟩ := I.hok a _ ha
    cases kv
    have en : es.toList = [] := by
      cases e : es.toList with
      | nil => rfl
      | cons x y => rw [e] at pr; nomatch pr
    have hr : Reads s.heap (.ref a) (.dict []) _ := .dict g ex.1 dd (by rw [en]; exact .nil) (by rw [en]; exact .nil)
    refine repr_of_reads' hr (by rfl) (fun _ m => ?_) hg (by show X.A.units + (_ + 1) < cLine; exact Nat.lt_of_le_of_lt (Nat.add_le_add_left (by decide) _) hu) (fun b o e => e) (fun h' t tk kept => ⟨.str _, H, I.kept kept, ⟨t, rfl⟩, q⟩) (by decide)
    simp at m
    rw [← m] at ns
    simp at ns
theorem Same.seqL {K : PySem.W.Frag} {H H' : Hp} {a : Addr} {xs : List V} (e : Same H H') (h : SqL K H a xs) : SqL K H' a xs := by
  rcases h with (h | ⟨o, h⟩) | h
  · exact .inl (.inl (e _ _ h))
  · exact .inl (.inr ⟨o, e _ _ h⟩)
  · exact .inr h
mutual
theorem dp_same {K : PySem.W.Frag} {H H' : Hp} (s : Same H H') : ∀ (d : PyData) (v : V), Dp K H v d → Dp K H' v d
  | .none, _, h => by cases h; exact .non
  | .bool b, _, h => by cases h; exact .bl b
  | .int i, _, h => by cases h; exact .int i
  | .str x, _, h => by cases h; exact .str x
  | .list ds, _, h => by
    cases h with
    | lst hs ha => exact .lst (Same.seqL s hs) (dp_sameA s ds _ ha)
  | .tuple ds, _, h => by
    cases h with
    | tup hs ha => exact .tup (Same.seqT s hs) (dp_sameA s ds _ ha)
  | .dict _, _, h => by cases h
theorem dp_sameA {K : PySem.W.Frag} {H H' : Hp} (s : Same H H') : ∀ (ds : List PyData) (vs : List V), DpAll K H vs ds → DpAll K H' vs ds
  | [], _, h => by cases h; exact .nil
  | d :: ds, _, h => by
    cases h with
    | cons h1 h2 => exact .cons (dp_same s d _ h1) (dp_sameA s ds _ h2)
end
theorem ReprV.same {K : PySem.W.Frag} {H H' : Hp} {v : V} {x : Str} (s : Same H H') (h : ReprV K H v x) : ReprV K H' v x := by
  cases h with
  | data hd h1 h2 h3 h4 => exact .data (dp_same s _ _ hd) h1 h2 h3 h4
  | non => exact .non
  | bl b => exact .bl b
  | int i hi => exact .int i hi
  | str y hy => exact .str y hy
  | dict ha => exact .dict (s _ _ ha)
/-! ### values that are none -/
/-- x is an integer and no bool, or it is not: b -/
def IsI (K : PySem.W.Frag) (H : Hp) (x : V) (b : Bool) : Prop := ∃ t b1 b2, TyX K H x t ∧ PySem.W.kitOne K t (.type "int") = some b1 ∧ PySem.W.kitOne K t (.type "bool") = some b2 ∧ b = (b1 && !b2)
/-- no tuple of m integers -/
def NotInts (K : PySem.W.Frag) (H : Hp) (v : V) (m : Nat) : Prop :=
  (∃ t, TyX K H v t ∧ PySem.W.kitOne K t (.type "tuple") = some false) ∨
    ∃ (a : Addr) (xs : List V), v = .ref a ∧ H a = some (.tup xs) ∧ xs.length ≤ 100 ∧ (xs.length ≠ m ∨ ∃ bs : List Bool, bs.length = xs.length ∧ (∀ i x, xs[i]? = some x → IsI K H x (bs.getD i false)) ∧ bs.all id = false)
/-- no box of the grid of n and m bits -/
def NotBox (K : PySem.W.Frag) (H : Hp) (v : V) (n m : Nat) : Prop :=
  NotInts K H v 4 ∨ ∃ (a : Addr) (x1 y1 x2 y2 : Int), v = .ref a ∧ H a = some (.tup [.int x1, .int y1, .int x2, .int y2]) ∧ x1.natAbs < 2 ^ 1000 ∧ ¬ (0 ≤ x1 ∧ x1 ≤ x2 ∧ x2 < ((2 ^ n : Nat) : Int) ∧ 0 ≤ y1 ∧ y1 ≤ y2 ∧ y2 < ((2 ^ m : Nat) : Int))
section
variable {K : PySem.W.Frag} {H H' : Hp}
theorem TyX.same (s : Same H H') {v : V} {t : Value} (h : TyX K H v t) : TyX K H' v t := by
  cases h with
  | base b =>
    refine .base ?_
    cases b with
    | non => exact .non
    | bl x => exact .bl x
    | int i => exact .int i
    | str x => exact .str x
    | flt x => exact .flt x
    | lst e => exact .lst (s _ _ e)
    | frz e => exact .frz (s _ _ e)
    | tup e => exact .tup (s _ _ e)
    | dK e => exact .dK (s _ _ e)
    | dT e => exact .dT (s _ _ e)
    | ins e cl ha hn htk hm => exact .ins (s _ _ e) cl ha hn htk hm
  | byt b => exact .byt b
  | set e => exact .set (s _ _ e)
  | kList e c => exact .kList e c
  | kTuple e c => exact .kTuple e c
  | kDict e c => exact .kDict e c
  | fTuple e => exact .fTuple (s _ _ e)
  | fDict e => exact .fDict (s _ _ e)
theorem IsI.same (s : Same H H') {v : V} {b : Bool} (h : IsI K H v b) : IsI K H' v b := by
  obtain ⟨t, b1, b2, h1, h2⟩ := h
  exact ⟨t, b1, b2, Lk.TyX.same s h1, h2⟩
theorem NotInts.same (s : Same H H') {v : V} {m : Nat} (h : NotInts K H v m) : NotInts K H' v m := by
  rcases h with ⟨t, h1, h2⟩ | ⟨a, xs, h1, h2, h3, h4⟩
  · exact .inl ⟨t, Lk.TyX.same s h1, h2⟩
  · refine .inr ⟨a, xs, h1, s _ _ h2, h3, ?_⟩
    rcases h4 with h4 | ⟨bs, h4, h5, h6⟩
    · exact .inl h4
    · exact .inr ⟨bs, h4, fun i x e => IsI.same s (h5 i x e), h6⟩
theorem NotBox.same (s : Same H H') {v : V} {n m : Nat} (h : NotBox K H v n m) : NotBox K H' v n m := by
  rcases h with h | ⟨a, x1, y1, x2, y2, h1, h2, h3⟩
  · exact .inl (NotInts.same s h)
  · exact .inr ⟨a, x1, y1, x2, y2, h1, s _ _ h2, h3⟩
theorem isI_non : IsI K H .non false := ⟨_, false, false, .base .non, kit_ty (by decide +kernel), kit_ty (by decide +kernel), rfl⟩
theorem isI_int (i : Int) : IsI K H (.int i) true := ⟨_, true, false, .base (.int i), kit_ty (by decide +kernel), kit_ty (by decide +kernel), rfl⟩
theorem isI_bl (b : Bool) : IsI K H (.bl b) false := ⟨_, true, true, .base (.bl b), kit_ty (by decide +kernel), kit_ty (by decide +kernel), rfl⟩
theorem isI_str (x : Str) : IsI K H (.str x) false := ⟨_, false, false, .base (.str x), kit_ty (by decide +kernel), kit_ty (by decide +kernel), rfl⟩
theorem isI_lst {a : Addr} {xs : List V} (e : H a = some (.lst xs)) : IsI K H (.ref a) false := ⟨_, false, false, .base (.lst e), kit_ty (by decide +kernel), kit_ty (by decide +kernel), rfl⟩
theorem isI_tup {a : Addr} {xs : List V} (e : H a = some (.tup xs)) : IsI K H (.ref a) false := ⟨_, false, false, .base (.tup e), kit_ty (by decide +kernel), kit_ty (by decide +kernel), rfl⟩
end
/-! ### small data: its text is short -/
def Lf (k w : Nat) (d : PyData) : Prop := d.showable = true ∧ d.hasDict = false ∧ d.depth ≤ k ∧ d.leavesShort 224 = true ∧ d.weight ≤ w
theorem Lf.mono {k w k' w' : Nat} {d : PyData} (h : Lf k w d) (hk : k ≤ k') (hw : w ≤ w') : Lf k' w' d := ⟨h.1, h.2.1, Nat.le_trans h.2.2.1 hk, h.2.2.2.1, Nat.le_trans h.2.2.2.2 hw⟩
theorem lf_non : Lf 0 220 .none := ⟨rfl, rfl, by decide, rfl, by decide⟩
theorem lf_bl (b : Bool) : Lf 0 220 (.bool b) := ⟨rfl, rfl, by simp [PyData.depth], rfl, by simp [PyData.weight]⟩
theorem lf_int {i : Int} (h : i.natAbs < 2 ^ 220) : Lf 0 220 (.int i) := by
  have hl : i.natAbs.log2 < 220 := PySem.Flt.log2_lt_of (by decide) h
  refine ⟨?_, by simp only [PyData.hasDict], by simp [PyData.depth], leaf_int h, ?_⟩
  · simp only [PyData.showable]
    exact decide_eq_true (by omega)
  · simp only [PyData.weight]
    split <;> omega
theorem lf_str {x : Str} (h : x.cps.toList.all (fun c => decide (c < 16 ^ 8)) = true) (hs : x.cps.size ≤ 220) : Lf 0 220 (.str x) :=
  ⟨by simp only [PyData.showable], by simp only [PyData.hasDict], by simp [PyData.depth], by simpa only [PyData.leavesShort] using h, by simpa only [PyData.weight] using hs⟩
theorem lf_all {k w : Nat} : ∀ ds : List PyData, (∀ d ∈ ds, Lf k w d) → PyData.showableAll ds = true ∧ PyData.hasDictAll ds = false ∧ PyData.depthAll ds ≤ k ∧ PyData.leavesShortAll 224 ds = true ∧ PyData.weightAll ds ≤ (w + 1) * ds.length
  | [], _ => by simp [PyData.showableAll, PyData.hasDictAll, PyData.depthAll, PyData.leavesShortAll, PyData.weightAll]
  | d :: ds, h => by
    obtain ⟨a1, a2, a3, a4, a5⟩ := h d List.mem_cons_self
    obtain ⟨b1, b2, b3, b4, b5⟩ := lf_all ds fun e he => h e (List.mem_cons_of_mem _ he)
    refine ⟨?_, ?_, ?_, ?_, ?_⟩
    · simp only [PyData.showableAll, a1, b1, Bool.and_self]
    · simp only [PyData.hasDictAll, a2, b2, Bool.or_self]
    · simp only [PyData.depthAll]
      omega
    · simp only [PyData.leavesShortAll, a4, b4, Bool.and_self]
    · simp only [PyData.weightAll, List.length_cons]
      have : (w + 1) * (ds.length + 1) = (w + 1) * ds.length + (w + 1) := by rw [Nat.mul_add, Nat.mul_one]
      omega
theorem lf_list {k w : Nat} {ds : List PyData} (h : ∀ d ∈ ds, Lf k w d) : Lf (k + 1) ((w + 1) * ds.length) (.list ds) := by
  obtain ⟨b1, b2, b3, b4, b5⟩ := lf_all ds h
  refine ⟨by simpa only [PyData.showable] using b1, by simpa only [PyData.hasDict] using b2, ?_, by simpa only [PyData.leavesShort] using b4, by simpa only [PyData.weight] using b5⟩
  simp only [PyData.depth]
  omega
theorem lf_tup {k w : Nat} {ds : List PyData} (h : ∀ d ∈ ds, Lf k w d) : Lf (k + 1) ((w + 1) * ds.length) (.tuple ds) := by
  obtain ⟨b1, b2, b3, b4, b5⟩ := lf_all ds h
  refine ⟨by simpa only [PyData.showable] using b1, by simpa only [PyData.hasDict] using b2, ?_, by simpa only [PyData.leavesShort] using b4, by simpa only [PyData.weight] using b5⟩
  simp only [PyData.depth]
  omega
theorem Lf.rp {k w : Nat} {d : PyData} (h : Lf k w d) (hk : k ≤ 8) (hw : w ≤ 70000) : RpOk d := by
  obtain ⟨a1, a2, a3, a4, a5⟩ := h
  refine ⟨a1, a2, by omega, ?_⟩
  have s := PyData.shown_le 224 (by decide) d a4
  have : sizeLine = 16777216 := sizeLine_eq
  omega
theorem Lf.repr {K : PySem.W.Frag} {H : Hp} {a : Addr} {k w : Nat} {d : PyData} (h : Lf k w d) (hk : k ≤ 8) (hw : w ≤ 70000) (hd : Dp K H (.ref a) d) : ∃ x, ReprV K H (.ref a) x := by
  obtain ⟨h1, h2, h3, h4⟩ := h.rp hk hw
  exact ⟨_, .data hd h1 h2 h3 h4⟩
/-! ### a heap that grows beside a list that changes: what is told stands in G, which has no such list -/
structure Beside (F : Addr) (H0 G Hc : Hp) : Prop where
  free : G F = none
  old : Same H0 G
  now : Same G Hc
namespace Beside
variable {F p : Addr} {H0 G Hc : Hp} {o : HO}
theorem new (b : Beside F H0 G Hc) (hF : Hc F ≠ none) (hp : Hc p = none) : Beside F H0 (upd G p o) (upd Hc p o) := by
  have gp : G p = none := by
    cases e : G p with
    | none => rfl
    | some u => rw [b.now _ _ e] at hp; cases hp
  have pF : F ≠ p := fun z => hF (z ▸ hp)
  refine ⟨by rw [upd_ne pF]; exact b.free, fun c u h => ?_, fun c u h => ?_⟩
  · have h2 := b.old c u h
    rw [upd_ne (fun z => by rw [z, gp] at h2; cases h2)]
    exact h2
  · by_cases hc : c = p
    · subst hc
      rw [upd_same] at h ⊢
      exact h
    · rw [upd_ne hc] at h ⊢
      exact b.now c u h
theorem put (b : Beside F H0 G Hc) : Beside F H0 G (upd Hc F o) := ⟨b.free, b.old, fun c u h => by
  rw [upd_ne (fun z => by rw [z, b.free] at h; cases h)]
  exact b.now c u h⟩
theorem grow (b : Beside F H0 G Hc) (hF : Hc F ≠ none) (hp : Hc p = none) : Same G (upd G p o) := by
  have gp : G p = none := by
    cases e : G p with
    | none => rfl
    | some u => rw [b.now _ _ e] at hp; cases hp
  exact same_mut (Same.refl G) gp
end Beside
end Lk

set_option Elab.async false
set_option linter.all false
set_option maxRecDepth 100000
set_option maxHeartbeats 4000000
namespace Lk
/-! blocks and pages: what the great law of blocks asks -/
theorem whole_ends {l : List Bool} {p : P4} {t m : Nat} (ht : t ≤ l.length) : whole l p t m ↔ inK l p (m * 2 ^ t) ∧ inK l p (m * 2 ^ t + (2 ^ t - 1)) := by
  have hp := two_pos t
  constructor
  · intro h
    have h0 := h 0 hp
    rw [Nat.add_zero] at h0
    exact ⟨h0, h (2 ^ t - 1) (by omega)⟩
  · rintro ⟨h1, h2⟩
    have hs : (l.drop (l.length - t)).length = t := by rw [List.length_drop]; omega
    have hl : l.take (l.length - t) ++ l.drop (l.length - t) = l := List.take_append_drop _ _
    generalize l.take (l.length - t) = pre at hl
    generalize l.drop (l.length - t) = suf at hs hl
    subst hl hs
    rw [whole_iff]
    have px := two_pos (nx suf)
    have py := two_pos (ny suf)
    have e1 := keyL_ones suf
    have e2 : 2 ^ suf.length - 1 = keyL suf (2 ^ nx suf - 1) (2 ^ ny suf - 1) := by omega
    have c1 : inK (pre ++ suf) p (m * 2 ^ suf.length + 0) := by rw [Nat.add_zero]; exact h1
    rw [e2] at h2
    unfold inK at c1 h2
    rw [xOf_app _ _ _ _ hp, yOf_app _ _ _ _ hp, xOf_zero, yOf_zero] at c1
    rw [xOf_app _ _ _ _ (keyL_lt suf _ _), yOf_app _ _ _ _ (keyL_lt suf _ _), xOf_key, yOf_key, Nat.mod_eq_of_lt (show 2 ^ nx suf - 1 < 2 ^ nx suf by omega), Nat.mod_eq_of_lt (show 2 ^ ny suf - 1 < 2 ^ ny suf by omega)] at h2
    omega
theorem half_of (K t : Nat) : K / 2 ^ t = 2 * (K / 2 ^ (t + 1)) ∨ K / 2 ^ t = 2 * (K / 2 ^ (t + 1)) + 1 := by
  have e : K / 2 ^ (t + 1) = K / 2 ^ t / 2 := by rw [Nat.pow_succ, ← Nat.div_div_eq_div_mul]
  rw [e]
  omega
theorem gr_at {l : List Bool} {p : P4} {T K n : Nat} (hT : whole l p T (K / 2 ^ T)) (hn : ∀ s, T < s → s ≤ n → ¬ whole l p s (K / 2 ^ s)) : ∀ d, T + d ≤ n → 1 ≤ gr l p (T + d) (K / 2 ^ (T + d)) T
  | 0, _ => by rw [Nat.add_zero, gr_top, if_pos hT]; exact Nat.le_refl _
  | d + 1, h => by
    have ih := gr_at hT hn d (by omega)
    rw [show T + (d + 1) = T + d + 1 by omega, gr_split (by omega) (hn (T + d + 1) (by omega) (by omega))]
    rcases half_of K (T + d) with e | e <;> rw [e] at ih <;> omega
theorem wc_le (l : List Bool) (p : P4) (s t m : Nat) : wc l p s t m ≤ 2 ^ (t - s) := by
  unfold wc
  have := List.countP_le_length (p := fun r => decide (whole l p s (m * 2 ^ (t - s) + r))) (l := List.range (2 ^ (t - s)))
  rw [List.length_range] at this
  exact this
theorem gr_le (l : List Bool) (p : P4) (t m s : Nat) : gr l p t m s ≤ wc l p s t m := by unfold gr; exact Nat.sub_le _ _
theorem gr_lt {l : List Bool} {p : P4} (g1 : nx l ≤ 100) (g2 : ny l ≤ 100) (s : Nat) : gr l p l.length 0 s < 2 ^ 1000 := by
  have ll := nxy l
  exact Nat.lt_of_le_of_lt (Nat.le_trans (gr_le _ _ _ _ _) (wc_le _ _ _ _ _)) (Nat.pow_lt_pow_right (by decide) (by omega))
/-- the sizes add up to the area -/
theorem gr_sum (l : List Bool) (p : P4) (L : Nat) : ∀ k, k ≤ L + 1 → ((List.range k).map fun t => gr l p L 0 t * 2 ^ t).sum + (if k ≤ L then wc l p k L 0 * 2 ^ k else 0) = wc l p 0 L 0
  | 0, _ => by simp
  | k + 1, h => by
    have ih := gr_sum l p L k (by omega)
    rw [if_pos (by omega)] at ih
    rw [List.range_succ, List.map_append, List.sum_append, List.map_cons, List.map_nil, List.sum_cons, List.sum_nil, Nat.add_zero, Nat.add_assoc]
    rw [← ih]
    congr 1
    unfold gr
    by_cases c : k + 1 ≤ L
    · rw [if_pos c, if_pos c]
      have hh := wc_half l p k (L - (k + 1)) 0
      rw [show k + 1 + (L - (k + 1)) = L by omega] at hh
      rw [Nat.pow_succ, Nat.sub_mul]
      have e : 2 * wc l p (k + 1) L 0 * 2 ^ k = wc l p (k + 1) L 0 * (2 ^ k * 2) := by rw [Nat.mul_comm 2, Nat.mul_assoc, Nat.mul_comm 2 (2 ^ k)]
      rw [e]
      have := Nat.mul_le_mul_right (2 ^ k) hh
      rw [e] at this
      omega
    · rw [if_neg c, if_neg c, Nat.mul_zero, Nat.sub_zero, Nat.add_zero]
theorem wc_area {l : List Bool} {p : P4} (b : Bx l p.1 p.2.1 p.2.2.1 p.2.2.2) : wc l p 0 l.length 0 = (p.2.2.1 + 1 - p.1) * (p.2.2.2 + 1 - p.2.1) := by
  have h := wc_span b (Nat.zero_le l.length)
  obtain ⟨b1, b2, b3, b4⟩ := b
  rw [Nat.sub_zero, List.drop_length, nx_nil, ny_nil, span_zero b1, span_zero b2] at h
  have h' : ((wc l p 0 l.length 0 : Nat) : Int) = (((p.2.2.1 + 1 - p.1) * (p.2.2.2 + 1 - p.2.1) : Nat) : Int) := by
    rw [Int.natCast_mul, show ((p.2.2.1 + 1 - p.1 : Nat) : Int) = (p.2.2.1 : Int) + 1 - (p.1 : Int) by omega, show ((p.2.2.2 + 1 - p.2.1 : Nat) : Int) = (p.2.2.2 : Int) + 1 - (p.2.1 : Int) by omega]
    exact h
  exact Int.ofNat.inj h'
/-- one box in two: no more blocks than both have -/
theorem str_two {l : List Bool} {p p1 p2 : P4} (h : ∀ K, inK l p K ↔ inK l p1 K ∨ inK l p2 K) : ∀ t m, (strL l p t m).length ≤ (strL l p1 t m).length + (strL l p2 t m).length := by
  have no : ∀ {q : P4} {t m : Nat}, (strL l q t m).length = 0 → ∀ r, r < 2 ^ t → ¬ inK l q (m * 2 ^ t + r) := by
    intro q t
    induction t with
    | zero =>
      intro m e r hr hk
      have : r = 0 := by simpa using hr
      subst this
      have e' : (if whole l q 0 m then [(m, 0)] else []).length = 0 := e
      rw [if_pos (whole_zero.mpr (by simpa using hk))] at e'
      cases e'
    | succ t ih =>
      intro m e r hr hk
      have e' : (if whole l q (t + 1) m then [(m * 2 ^ (t + 1), t + 1)] else strL l q t (2 * m) ++ strL l q t (2 * m + 1)).length = 0 := e
      split at e'
      · cases e'
      · rw [List.length_append] at e'
        rw [Nat.pow_succ] at hr hk
        rcases Nat.lt_or_ge r (2 ^ t) with c | c
        · exact ih (m := 2 * m) (by omega) r c (by rw [show 2 * m * 2 ^ t + r = m * (2 ^ t * 2) + r by rw [Nat.mul_comm 2 m, Nat.mul_assoc, Nat.mul_comm 2]]; exact hk)
        · exact ih (m := 2 * m + 1) (by omega) (r - 2 ^ t) (by omega) (by rw [show (2 * m + 1) * 2 ^ t + (r - 2 ^ t) = m * (2 ^ t * 2) + r by rw [Nat.add_mul, Nat.mul_comm 2 m, Nat.mul_assoc, Nat.mul_comm 2]; omega]; exact hk)
  intro t
  induction t with
  | zero =>
    intro m
    show (if whole l p 0 m then [(m, 0)] else []).length ≤ (if whole l p1 0 m then [(m, 0)] else []).length + (if whole l p2 0 m then [(m, 0)] else []).length
    have e0 : whole l p 0 m ↔ whole l p1 0 m ∨ whole l p2 0 m := by
      rw [whole_zero, whole_zero, whole_zero]
      exact h m
    by_cases c1 : whole l p1 0 m <;> by_cases c2 : whole l p2 0 m <;> simp [e0, c1, c2]
  | succ t ih =>
    intro m
    show (if whole l p (t + 1) m then [(m * 2 ^ (t + 1), t + 1)] else strL l p t (2 * m) ++ strL l p t (2 * m + 1)).length ≤ _
    by_cases c : whole l p (t + 1) m
    · rw [if_pos c]
      show 1 ≤ _
      rcases Nat.eq_zero_or_pos ((strL l p1 (t + 1) m).length + (strL l p2 (t + 1) m).length) with z | z
      · exfalso
        have z1 := no (q := p1) (t := t + 1) (m := m) (by omega) 0 (two_pos _)
        have z2 := no (q := p2) (t := t + 1) (m := m) (by omega) 0 (two_pos _)
        rcases (h _).mp (c 0 (two_pos _)) with q | q
        · exact z1 q
        · exact z2 q
      · exact z
    · have c1 : ¬ whole l p1 (t + 1) m := fun w => c fun r hr => (h _).mpr (.inl (w r hr))
      have c2 : ¬ whole l p2 (t + 1) m := fun w => c fun r hr => (h _).mpr (.inr (w r hr))
      rw [if_neg c]
      show _ ≤ (if whole l p1 (t + 1) m then [(m * 2 ^ (t + 1), t + 1)] else strL l p1 t (2 * m) ++ strL l p1 t (2 * m + 1)).length + (if whole l p2 (t + 1) m then [(m * 2 ^ (t + 1), t + 1)] else strL l p2 t (2 * m) ++ strL l p2 t (2 * m + 1)).length
      rw [if_neg c1, if_neg c2, List.length_append, List.length_append, List.length_append]
      have := ih (2 * m)
      have := ih (2 * m + 1)
      omega
/-- pages -/
def metC (i a b : Nat) : Nat := b / 2 ^ i - a / 2 ^ i + 1
theorem met_next {i a b : Nat} (h : a ≤ b) : metC (i + 1) a b ≤ metC i a b ∧ metC i a b ≤ 2 * metC (i + 1) a b := by
  unfold metC
  rw [show a / 2 ^ (i + 1) = a / 2 ^ i / 2 by rw [Nat.pow_succ, ← Nat.div_div_eq_div_mul], show b / 2 ^ (i + 1) = b / 2 ^ i / 2 by rw [Nat.pow_succ, ← Nat.div_div_eq_div_mul]]
  have : a / 2 ^ i ≤ b / 2 ^ i := Nat.div_le_div_right h
  omega
theorem span_met {d x1 x2 : Nat} (h : x1 ≤ x2) : (x2 + 1) / 2 ^ d - (x1 + 2 ^ d - 1) / 2 ^ d ≤ metC d x1 x2 := by
  unfold metC
  have hp := two_pos d
  generalize 2 ^ d = N at hp
  have h1 : (x2 + 1) / N ≤ x2 / N + 1 := by
    have : x2 + 1 ≤ x2 + N := by omega
    have := Nat.div_le_div_right (c := N) this
    rw [Nat.add_div_right _ hp] at this
    exact this
  have h2 : x1 / N ≤ (x1 + N - 1) / N := Nat.div_le_div_right (by omega)
  have h3 : x1 / N ≤ x2 / N := Nat.div_le_div_right h
  omega
theorem wc_met {l : List Bool} {p : P4} (b : Bx l p.1 p.2.1 p.2.2.1 p.2.2.2) {t : Nat} (ht : t ≤ l.length) : wc l p t l.length 0 ≤ metC (nx (l.drop (l.length - t))) p.1 p.2.2.1 * metC (ny (l.drop (l.length - t))) p.2.1 p.2.2.2 := by
  have h := wc_span b ht
  obtain ⟨b1, b2, b3, b4⟩ := b
  rw [span_cnt b1, span_cnt b2, ← Int.natCast_mul] at h
  have h' : wc l p t l.length 0 = _ := Int.ofNat.inj h
  rw [h']
  exact Nat.mul_le_mul (span_met b1) (span_met b2)
theorem shape_next {l : List Bool} {t : Nat} (h : t < l.length) : (nx (l.drop (l.length - (t + 1))) = nx (l.drop (l.length - t)) + 1 ∧ ny (l.drop (l.length - (t + 1))) = ny (l.drop (l.length - t)) ∧ l[l.length - 1 - t]? = some true) ∨
    (nx (l.drop (l.length - (t + 1))) = nx (l.drop (l.length - t)) ∧ ny (l.drop (l.length - (t + 1))) = ny (l.drop (l.length - t)) + 1 ∧ l[l.length - 1 - t]? = some false) := by
  have e : l.drop (l.length - (t + 1)) = l[l.length - (t + 1)]'(by omega) :: l.drop (l.length - t) := by
    rw [List.drop_eq_getElem_cons (show l.length - (t + 1) < l.length by omega), show l.length - (t + 1) + 1 = l.length - t by omega]
  rw [e, show l.length - 1 - t = l.length - (t + 1) by omega, List.getElem?_eq_getElem (show l.length - (t + 1) < l.length by omega)]
  cases l[l.length - (t + 1)]'(by omega)
  · right; exact ⟨nx_f _, ny_f _, rfl⟩
  · left; exact ⟨nx_t _, ny_t _, rfl⟩
theorem met_mono {l : List Bool} {p : P4} (hx : p.1 ≤ p.2.2.1) (hy : p.2.1 ≤ p.2.2.2) {t : Nat} (h : t < l.length) :
    let M := fun t => metC (nx (l.drop (l.length - t))) p.1 p.2.2.1 * metC (ny (l.drop (l.length - t))) p.2.1 p.2.2.2
    M (t + 1) ≤ M t ∧ M t ≤ 2 * M (t + 1) := by
  dsimp only
  rcases shape_next h with ⟨e1, e2, _⟩ | ⟨e1, e2, _⟩
  · rw [e1, e2]
    have := met_next (i := nx (l.drop (l.length - t))) hx
    exact ⟨Nat.mul_le_mul_right _ this.1, by rw [← Nat.mul_assoc]; exact Nat.mul_le_mul_right _ this.2⟩
  · rw [e1, e2]
    have := met_next (i := ny (l.drop (l.length - t))) hy
    exact ⟨Nat.mul_le_mul_left _ this.1, by rw [Nat.mul_left_comm]; exact Nat.mul_le_mul_left _ this.2⟩
end Lk

set_option linter.all false
namespace Lk
/-! ### how many cells of a box lie in a stretch of keys -/
theorem cntB_or {P Q R : Nat → Nat → Bool} {x y h : Nat} : ∀ w, (∀ a b, a < w → b < h → R (x + a) (y + b) = (P (x + a) (y + b) || Q (x + a) (y + b)) ∧ ¬ (P (x + a) (y + b) = true ∧ Q (x + a) (y + b) = true)) → cntB R x y w h = cntB P x y w h + cntB Q x y w h
  | 0, _ => rfl
  | w + 1, e => by
    have h1 := cntB_or w fun a b ha hb => e a b (by omega) hb
    have h2 : (List.range h).countP (fun b => R (x + w) (y + b)) = (List.range h).countP (fun b => P (x + w) (y + b)) + (List.range h).countP (fun b => Q (x + w) (y + b)) := by
      have hh : ∀ bs : List Nat, (∀ b ∈ bs, b < h) → bs.countP (fun b => R (x + w) (y + b)) = bs.countP (fun b => P (x + w) (y + b)) + bs.countP (fun b => Q (x + w) (y + b)) := by
        intro bs
        induction bs with
        | nil => intro _; rfl
        | cons b bs ih =>
          intro hb
          have := ih fun c hc => hb c (List.mem_cons_of_mem _ hc)
          obtain ⟨e1, e2⟩ := e w b (by omega) (hb b List.mem_cons_self)
          rw [List.countP_cons, List.countP_cons, List.countP_cons, this, e1]
          cases hp : P (x + w) (y + b) <;> cases hq : Q (x + w) (y + b) <;> rw [hp, hq] at e2
          · rfl
          · simp; omega
          · simp; omega
          · exact absurd ⟨rfl, rfl⟩ e2
      exact hh _ fun b hb => List.mem_range.mp hb
    show cntB R x y w h + _ = cntB P x y w h + _ + (cntB Q x y w h + _)
    rw [h1, h2]
    omega
theorem cnt_rng (y B V : Nat) : ∀ h, (List.range h).countP (fun b => decide (B ≤ y + b ∧ y + b < B + V)) = min (y + h) (B + V) - max y B
  | 0 => by rw [List.range_zero, List.countP_nil]; omega
  | h + 1 => by
    rw [List.range_succ, List.countP_append, cnt_rng y B V h, List.countP_cons, List.countP_nil]
    by_cases e : B ≤ y + h ∧ y + h < B + V
    · rw [if_pos (decide_eq_true e)]; omega
    · rw [if_neg (by rw [decide_eq_false e]; decide)]; omega
theorem cntB_rect (A U B V y h x : Nat) : ∀ w, cntB (fun i j => decide (A ≤ i ∧ i < A + U) && decide (B ≤ j ∧ j < B + V)) x y w h = (min (x + w) (A + U) - max x A) * (min (y + h) (B + V) - max y B)
  | 0 => by
    show 0 = _
    rw [show min (x + 0) (A + U) - max x A = 0 by omega, Nat.zero_mul]
  | w + 1 => by
    show cntB _ x y w h + (List.range h).countP (fun b => decide (A ≤ x + w ∧ x + w < A + U) && decide (B ≤ y + b ∧ y + b < B + V)) = _
    rw [cntB_rect A U B V y h x w]
    by_cases e : A ≤ x + w ∧ x + w < A + U
    · have e1 : (List.range h).countP (fun b => decide (A ≤ x + w ∧ x + w < A + U) && decide (B ≤ y + b ∧ y + b < B + V)) = min (y + h) (B + V) - max y B := by
        rw [← cnt_rng y B V h]
        congr 1
        funext b
        rw [decide_eq_true e, Bool.true_and]
      rw [e1, show min (x + (w + 1)) (A + U) - max x A = min (x + w) (A + U) - max x A + 1 by omega, Nat.add_mul, Nat.one_mul]
    · have e1 : (List.range h).countP (fun b => decide (A ≤ x + w ∧ x + w < A + U) && decide (B ≤ y + b ∧ y + b < B + V)) = 0 := List.countP_eq_zero.mpr fun b _ => by rw [decide_eq_false e, Bool.false_and]; decide
      rw [e1, show min (x + (w + 1)) (A + U) - max x A = min (x + w) (A + U) - max x A by omega]
      omega
theorem div_iff {a n X : Nat} (hn : 0 < n) : a / n = X ↔ X * n ≤ a ∧ a < X * n + n := by
  constructor
  · rintro rfl
    have h1 := Nat.div_add_mod a n
    have h2 := Nat.mod_lt a hn
    rw [Nat.mul_comm n] at h1
    omega
  · rintro ⟨h1, h2⟩
    exact Nat.div_eq_of_lt_le (by omega) (by rw [Nat.succ_mul]; omega)
/-- the cells of the m-th stretch of 2 ^ t keys -/
theorem key_in_block {pre suf : List Bool} {x y m : Nat} (hx : x < 2 ^ nx (pre ++ suf)) (hy : y < 2 ^ ny (pre ++ suf)) (hm : m < 2 ^ pre.length) :
    keyL (pre ++ suf) x y / 2 ^ suf.length = m ↔ (x / 2 ^ nx suf = xOf pre m ∧ y / 2 ^ ny suf = yOf pre m) := by
  have e : keyL (pre ++ suf) x y / 2 ^ suf.length = keyL pre (x / 2 ^ nx suf) (y / 2 ^ ny suf) := by
    rw [keyL_app, Nat.mul_comm, Nat.mul_add_div (two_pos _), Nat.div_eq_of_lt (keyL_lt suf x y), Nat.add_zero]
  rw [e]
  rw [nx_app, Nat.pow_add] at hx
  rw [ny_app, Nat.pow_add] at hy
  have hx' : x / 2 ^ nx suf < 2 ^ nx pre := Nat.div_lt_of_lt_mul (by rw [Nat.mul_comm]; exact hx)
  have hy' : y / 2 ^ ny suf < 2 ^ ny pre := Nat.div_lt_of_lt_mul (by rw [Nat.mul_comm]; exact hy)
  constructor
  · rintro rfl
    rw [xOf_key, yOf_key, Nat.mod_eq_of_lt hx', Nat.mod_eq_of_lt hy']
    exact ⟨rfl, rfl⟩
  · rintro ⟨h1, h2⟩
    rw [h1, h2, keyL_cell, Nat.mod_eq_of_lt hm]
theorem less_block {pre suf : List Bool} {p : P4} {m : Nat} (h : InBlk (pre ++ suf) p) (hm : m < 2 ^ pre.length) :
    lessO (pre ++ suf) (some p) ((m + 1) * 2 ^ suf.length) = lessO (pre ++ suf) (some p) (m * 2 ^ suf.length) +
      (min (p.2.2.1 + 1) (xOf pre m * 2 ^ nx suf + 2 ^ nx suf) - max p.1 (xOf pre m * 2 ^ nx suf)) * (min (p.2.2.2 + 1) (yOf pre m * 2 ^ ny suf + 2 ^ ny suf) - max p.2.1 (yOf pre m * 2 ^ ny suf)) := by
  obtain ⟨x1, y1, x2, y2⟩ := p
  obtain ⟨h1, h2, h3, h4⟩ := h
  dsimp only at h1 h2 h3 h4 ⊢
  have r := cntB_rect (xOf pre m * 2 ^ nx suf) (2 ^ nx suf) (yOf pre m * 2 ^ ny suf) (2 ^ ny suf) y1 (y2 + 1 - y1) x1 (x2 + 1 - x1)
  rw [show x1 + (x2 + 1 - x1) = x2 + 1 by omega, show y1 + (y2 + 1 - y1) = y2 + 1 by omega] at r
  rw [← r]
  refine cntB_or (h := y2 + 1 - y1) (x2 + 1 - x1) fun a b ha hb => ?_
  have hx : x1 + a < 2 ^ nx (pre ++ suf) := Nat.lt_of_le_of_lt (by omega) h3
  have hy : y1 + b < 2 ^ ny (pre ++ suf) := Nat.lt_of_le_of_lt (by omega) h4
  have hb2 := key_in_block hx hy hm
  rw [div_iff (two_pos _), div_iff (two_pos _), div_iff (two_pos _)] at hb2
  generalize keyL (pre ++ suf) (x1 + a) (y1 + b) = K at hb2 ⊢
  rw [Nat.add_mul, Nat.one_mul]
  have pt := two_pos suf.length
  generalize m * 2 ^ suf.length = M at hb2 ⊢
  generalize 2 ^ suf.length = N at hb2 pt ⊢
  have pN : (K < M + N) ↔ (K < M ∨ (M ≤ K ∧ K < M + N)) := by omega
  constructor
  · rw [Bool.eq_iff_iff]
    simp only [decide_eq_true_iff, Bool.or_eq_true, Bool.and_eq_true]
    rw [pN, hb2]
  · rintro ⟨q1, q2⟩
    simp only [decide_eq_true_iff, Bool.and_eq_true] at q1 q2
    have := hb2.mpr q2
    omega
/-- a digit 1 of the key: what it adds -/
theorem less_digit {l : List Bool} {p : P4} {k s : Nat} (h : InBlk l p) (hs : s < l.length) (hk : k < 2 ^ l.length) (hd : k / 2 ^ s % 2 = 1) :
    lessO l (some p) (k / 2 ^ s * 2 ^ s) = lessO l (some p) (k / 2 ^ (s + 1) * 2 ^ (s + 1)) +
      (min (p.2.2.1 + 1) (xOf l (k / 2 ^ (s + 1) * 2 ^ (s + 1)) + 2 ^ nx (l.drop (l.length - s))) - max p.1 (xOf l (k / 2 ^ (s + 1) * 2 ^ (s + 1)))) * (min (p.2.2.2 + 1) (yOf l (k / 2 ^ (s + 1) * 2 ^ (s + 1)) + 2 ^ ny (l.drop (l.length - s))) - max p.2.1 (yOf l (k / 2 ^ (s + 1) * 2 ^ (s + 1)))) := by
  have hl : l = l.take (l.length - s) ++ l.drop (l.length - s) := (List.take_append_drop _ _).symm
  have ls : (l.drop (l.length - s)).length = s := by rw [List.length_drop]; omega
  have lp : (l.take (l.length - s)).length = l.length - s := by rw [List.length_take]; omega
  generalize l.take (l.length - s) = pre at hl lp
  generalize l.drop (l.length - s) = suf at hl ls ⊢
  subst hl
  rw [List.length_append] at hs hk lp
  subst ls
  have e2 : k / 2 ^ (suf.length + 1) = k / 2 ^ suf.length / 2 := by rw [Nat.pow_succ, Nat.div_div_eq_div_mul]
  have e1 : k / 2 ^ (suf.length + 1) * 2 ^ (suf.length + 1) = 2 * (k / 2 ^ (suf.length + 1)) * 2 ^ suf.length := by rw [Nat.pow_succ, ← Nat.mul_assoc, Nat.mul_comm, ← Nat.mul_assoc]
  have e3 : k / 2 ^ suf.length = 2 * (k / 2 ^ (suf.length + 1)) + 1 := by rw [e2]; omega
  have hm : 2 * (k / 2 ^ (suf.length + 1)) < 2 ^ pre.length := by
    have : k / 2 ^ suf.length < 2 ^ pre.length := Nat.div_lt_of_lt_mul (by rw [← Nat.pow_add, Nat.add_comm]; exact hk)
    omega
  rw [e1, e3]
  generalize 2 * (k / 2 ^ (suf.length + 1)) = m at hm ⊢
  have b := less_block h hm
  have x0 := xOf_app pre suf m 0 (two_pos _)
  have y0 := yOf_app pre suf m 0 (two_pos _)
  rw [Nat.add_zero] at x0 y0
  have z1 : xOf suf 0 = 0 := by have := xOf_key suf 0 0; rw [keyL_zero, Nat.zero_mod] at this; exact this
  have z2 : yOf suf 0 = 0 := by have := yOf_key suf 0 0; rw [keyL_zero, Nat.zero_mod] at this; exact this
  rw [z1, Nat.add_zero] at x0
  rw [z2, Nat.add_zero] at y0
  rw [x0, y0]
  exact b
theorem less_digit0 {l : List Bool} {p : P4} {k s : Nat} (hd : k / 2 ^ s % 2 ≠ 1) : lessO l (some p) (k / 2 ^ s * 2 ^ s) = lessO l (some p) (k / 2 ^ (s + 1) * 2 ^ (s + 1)) := by
  have e2 : k / 2 ^ (s + 1) = k / 2 ^ s / 2 := by rw [Nat.pow_succ, Nat.div_div_eq_div_mul]
  have e3 : k / 2 ^ s = 2 * (k / 2 ^ (s + 1)) := by rw [e2]; omega
  congr 1
  rw [show k / 2 ^ (s + 1) * 2 ^ (s + 1) = 2 * (k / 2 ^ (s + 1)) * 2 ^ s by rw [Nat.pow_succ 2 s, ← Nat.mul_assoc, Nat.mul_comm, ← Nat.mul_assoc], ← e3]
theorem less_zero {l : List Bool} {p : P4} : lessO l (some p) 0 = 0 := cntP_false fun x y _ _ => decide_eq_false (Nat.not_lt_zero _)
theorem whole_in {l : List Bool} : InBlk l (0, 0, 2 ^ nx l - 1, 2 ^ ny l - 1) := by
  have px := two_pos (nx l)
  have py := two_pos (ny l)
  exact ⟨Nat.zero_le _, Nat.zero_le _, by show 2 ^ nx l - 1 < _; omega, by show 2 ^ ny l - 1 < _; omega⟩
/-- in the whole grid the rank is the key -/
theorem less_whole {l : List Bool} : ∀ {k : Nat}, k ≤ 2 ^ l.length → lessO l (some (0, 0, 2 ^ nx l - 1, 2 ^ ny l - 1)) k = k
  | 0, _ => less_zero
  | k + 1, h => by
    have b : Bx l 0 0 (2 ^ nx l - 1) (2 ^ ny l - 1) := ⟨whole_in.1, whole_in.2.1, whole_in.2.2.1, whole_in.2.2.2⟩
    have S : Sorts l 0 0 (2 ^ nx l - 1) (2 ^ ny l - 1) (sortB l 0 0 (2 ^ nx l - 1) (2 ^ ny l - 1)) := ⟨sortB_lt _ _ _ _ _, sortB_perm b⟩
    have ih := less_whole (l := l) (k := k) (by omega)
    rw [S.less] at ih ⊢
    have hk : k ∈ sortB l 0 0 (2 ^ nx l - 1) (2 ^ ny l - 1) := (S.mem b).mpr ⟨_, xOf l k, yOf l k, rfl, Nat.zero_le _, by have := xOf_lt l k; show xOf l k ≤ 2 ^ nx l - 1; omega, Nat.zero_le _, by have := yOf_lt l k; show yOf l k ≤ 2 ^ ny l - 1; omega, by rw [keyL_cell]; exact Nat.mod_eq_of_lt (by omega)⟩
    rw [less_step S.1, if_pos (less_mem S.1 hk), ih]
/-- a box in two parts -/
theorem less_parts {l : List Bool} {x1 y1 x2 y2 c k : Nat} (h1 : x1 ≤ c) (h2 : c < x2) :
    lessO l (some (x1, y1, c, y2)) k + lessO l (some (c + 1, y1, x2, y2)) k = lessO l (some (x1, y1, x2, y2)) k := by
  show cntB _ x1 y1 (c + 1 - x1) (y2 + 1 - y1) + cntB _ (c + 1) y1 (x2 + 1 - (c + 1)) (y2 + 1 - y1) = cntB _ x1 y1 (x2 + 1 - x1) (y2 + 1 - y1)
  rw [show x2 + 1 - x1 = (c + 1 - x1) + (x2 + 1 - (c + 1)) by omega, cntB_addw, show x1 + (c + 1 - x1) = c + 1 by omega]
theorem lessN_mono (ks : List Nat) {a b : Nat} (h : a ≤ b) : lessN ks a ≤ lessN ks b := List.countP_mono_left fun K _ z => decide_eq_true (Nat.lt_of_lt_of_le (of_decide_eq_true z) h)
/-- the first and the last cell are the corners -/
theorem first_corner {l : List Bool} {x1 y1 x2 y2 K : Nat} {ks : List Nat} (h : InBlk l (x1, y1, x2, y2)) (S : Sorts l x1 y1 x2 y2 ks) (hK : K ∈ ks) (h0 : lessN ks K = 0) : K = keyL l x1 y1 := by
  have b : Bx l x1 y1 x2 y2 := ⟨h.1, h.2.1, h.2.2.1, h.2.2.2⟩
  have hc : keyL l x1 y1 ∈ ks := (S.mem b).mpr ⟨_, x1, y1, rfl, Nat.le_refl _, h.1, Nat.le_refl _, h.2.1, rfl⟩
  obtain ⟨p, x, y, hp, a1, a2, a3, a4, a5⟩ := (S.mem b).mp hK
  cases hp
  have m := key_mono l a1 a3 (Nat.lt_of_le_of_lt a2 h.2.2.1) (Nat.lt_of_le_of_lt a4 h.2.2.2)
  rw [a5] at m
  rcases Nat.eq_or_lt_of_le m with e | e
  · exact e.symm
  · have := List.countP_eq_zero.mp h0 _ hc
    exact absurd (decide_eq_true e) this
theorem last_corner {l : List Bool} {x1 y1 x2 y2 K : Nat} {ks : List Nat} (h : InBlk l (x1, y1, x2, y2)) (S : Sorts l x1 y1 x2 y2 ks) (hK : K ∈ ks) (h0 : lessN ks K + 1 = ks.length) : K = keyL l x2 y2 := by
  have b : Bx l x1 y1 x2 y2 := ⟨h.1, h.2.1, h.2.2.1, h.2.2.2⟩
  have hc : keyL l x2 y2 ∈ ks := (S.mem b).mpr ⟨_, x2, y2, rfl, h.1, Nat.le_refl _, h.2.1, Nat.le_refl _, rfl⟩
  obtain ⟨p, x, y, hp, a1, a2, a3, a4, a5⟩ := (S.mem b).mp hK
  cases hp
  have m : keyL l x y ≤ keyL l x2 y2 := key_mono l a2 a4 h.2.2.1 h.2.2.2
  rw [a5] at m
  rcases Nat.eq_or_lt_of_le m with e | e
  · exact e
  · have s1 := less_step (k := K) S.1
    rw [if_pos (less_mem S.1 hK)] at s1
    have s2 := less_step (k := keyL l x2 y2) S.1
    rw [if_pos (less_mem S.1 hc)] at s2
    have s3 := lessN_mono ks (show K + 1 ≤ keyL l x2 y2 by omega)
    have s4 := lessN_le ks (keyL l x2 y2 + 1)
    omega
theorem xy_key {l : List Bool} {x y : Nat} (hx : x < 2 ^ nx l) (hy : y < 2 ^ ny l) : xOf l (keyL l x y) = x ∧ yOf l (keyL l x y) = y := by
  rw [xOf_key, yOf_key, Nat.mod_eq_of_lt hx, Nat.mod_eq_of_lt hy]; exact ⟨rfl, rfl⟩
/-- spots told in ascending sequence have rising keys -/
theorem spots_rise {ks : List Nat} {K K' : Nat} (hp : ks.Pairwise (· < ·)) (h' : K' ∈ ks) (hK : K ∈ ks) (h : lessN ks K' ≤ lessN ks K) : K' ≤ K := by
  rcases Nat.lt_or_ge K K' with e | e
  · have s1 := less_step (k := K) hp
    rw [if_pos (less_mem hp hK)] at s1
    have s3 := lessN_mono ks (show K + 1 ≤ K' by omega)
    omega
  · exact e
end Lk

set_option Elab.async false
set_option linter.all false
set_option maxRecDepth 100000
set_option maxHeartbeats 4000000
namespace Lk
/-! ### boxes together: their cells, each once, and the runs of these -/
def inb (l : List Bool) (p : P4) (K : Nat) : Bool := decide (p.1 ≤ xOf l K ∧ xOf l K ≤ p.2.2.1 ∧ p.2.1 ≤ yOf l K ∧ yOf l K ≤ p.2.2.2)
def b2i (b : Bool) : Int := if b = true then 1 else 0
theorem b2i_and (a b : Bool) : b2i (a && b) = b2i a * b2i b := by cases a <;> cases b <;> rfl
def sumN (f : Nat → Int) (N : Nat) : Int := ((List.range N).map f).sum
theorem sum_congr {α : Type} {f g : α → Int} : ∀ {xs : List α}, (∀ x ∈ xs, f x = g x) → (xs.map f).sum = (xs.map g).sum := fun {xs} h => by rw [List.map_congr_left h]
theorem sum_add {α : Type} (f g : α → Int) : ∀ xs : List α, (xs.map fun x => f x + g x).sum = (xs.map f).sum + (xs.map g).sum
  | [] => rfl
  | x :: xs => by simp only [List.map_cons, List.sum_cons]; rw [sum_add f g xs]; omega
theorem sum_mul {α : Type} (c : Int) (f : α → Int) : ∀ xs : List α, (xs.map fun x => c * f x).sum = c * (xs.map f).sum
  | [] => (Int.mul_zero c).symm
  | x :: xs => by simp only [List.map_cons, List.sum_cons]; rw [sum_mul c f xs, Int.mul_add]
theorem sum_zero {α : Type} : ∀ xs : List α, (xs.map fun _ => (0 : Int)).sum = 0
  | [] => rfl
  | x :: xs => by simp only [List.map_cons, List.sum_cons]; rw [sum_zero xs]; rfl
theorem sum_swap {α β : Type} (f : α → β → Int) (ys : List β) : ∀ xs : List α, (xs.map fun x => (ys.map fun y => f x y).sum).sum = (ys.map fun y => (xs.map fun x => f x y).sum).sum
  | [] => (sum_zero ys).symm
  | x :: xs => by
    simp only [List.map_cons, List.sum_cons]
    rw [sum_swap f ys xs, ← sum_add]
theorem count_sum {α : Type} (P : α → Bool) : ∀ xs : List α, ((xs.countP P : Nat) : Int) = (xs.map fun K => b2i (P K)).sum
  | [] => rfl
  | x :: xs => by
    simp only [List.map_cons, List.sum_cons, List.countP_cons]
    rw [← count_sum P xs]
    cases P x
    · simp [b2i]
    · simp [b2i]; omega
theorem countN_sum (P : Nat → Bool) (N : Nat) : (((List.range N).countP P : Nat) : Int) = sumN (fun K => b2i (P K)) N := count_sum P _
theorem inb_iff_key {l : List Bool} {p : P4} (h : InBlk l p) {K : Nat} (hK : K < 2 ^ l.length) : inb l p K = (boxN l p.1 p.2.1 (p.2.2.1 + 1 - p.1) (p.2.2.2 + 1 - p.2.1)).contains K := by
  obtain ⟨x1, y1, x2, y2⟩ := p
  obtain ⟨h1, h2, h3, h4⟩ := h
  dsimp only at h1 h2 h3 h4
  rw [Bool.eq_iff_iff, List.contains_iff_mem, boxN_mem]
  unfold inb
  rw [decide_eq_true_iff]
  dsimp only
  constructor
  · rintro ⟨a1, a2, a3, a4⟩
    exact ⟨xOf l K - x1, yOf l K - y1, by omega, by omega, by rw [show x1 + (xOf l K - x1) = xOf l K by omega, show y1 + (yOf l K - y1) = yOf l K by omega, keyL_cell, Nat.mod_eq_of_lt hK]⟩
  · rintro ⟨a, b, ha, hb, e⟩
    have q := xy_key (l := l) (x := x1 + a) (y := y1 + b) (by omega) (by omega)
    rw [e] at q
    omega
theorem key_count {l : List Bool} {p : P4} (h : InBlk l p) (P : Nat → Bool) : (List.range (2 ^ l.length)).countP (fun K => inb l p K && P K) = cntP (fun x y => P (keyL l x y)) p := by
  obtain ⟨x1, y1, x2, y2⟩ := p
  have b : Bx l x1 y1 x2 y2 := ⟨h.1, h.2.1, h.2.2.1, h.2.2.2⟩
  have e := boxN_cntB l P x1 y1 (y2 + 1 - y1) (x2 + 1 - x1)
  rw [← (sortB_perm b).countP_eq] at e
  unfold sortB at e
  rw [List.countP_filter] at e
  rw [show cntP (fun x y => P (keyL l x y)) (x1, y1, x2, y2) = cntB (fun x y => P (keyL l x y)) x1 y1 (x2 + 1 - x1) (y2 + 1 - y1) from rfl, ← e, List.range_eq_range']
  refine List.countP_congr fun K hK => ?_
  have hK' : K < 2 ^ l.length := by have := List.mem_range'.mp hK; omega
  rw [inb_iff_key h hK', Bool.and_comm]
theorem area_count {l : List Bool} {p : P4} (h : InBlk l p) : (List.range (2 ^ l.length)).countP (fun K => inb l p K) = wP p * hP p := by
  have := key_count h fun _ => true
  simp only [Bool.and_true] at this
  rw [this]
  exact cntP_true fun _ _ _ _ => rfl
/-! #### what boxes have in common, with signs -/
def comP (p q : P4) : Option P4 :=
  if max p.1 q.1 ≤ min p.2.2.1 q.2.2.1 ∧ max p.2.1 q.2.1 ≤ min p.2.2.2 q.2.2.2 then some (max p.1 q.1, max p.2.1 q.2.1, min p.2.2.1 q.2.2.1, min p.2.2.2 q.2.2.2) else none
theorem com_inb (l : List Bool) (p q : P4) (K : Nat) : (match comP p q with | none => 0 | some c => b2i (inb l c K)) = b2i (inb l p K) * b2i (inb l q K) := by
  rw [← b2i_and]
  unfold comP
  split
  · rename_i h
    split at h
    · cases h
    · rename_i hn
      have : (inb l p K && inb l q K) = false := by
        rw [Bool.and_eq_false_iff]
        unfold inb
        rw [decide_eq_false_iff_not, decide_eq_false_iff_not]
        omega
      rw [this]; rfl
  · rename_i c h
    split at h
    · cases h
      congr 1
      unfold inb
      rw [Bool.eq_iff_iff, Bool.and_eq_true, decide_eq_true_iff, decide_eq_true_iff, decide_eq_true_iff]
      dsimp only
      omega
    · cases h
theorem com_in {l : List Bool} {p q c : P4} (hp : InBlk l p) (hq : InBlk l q) (h : comP p q = some c) : InBlk l c := by
  unfold comP at h
  split at h
  · rename_i hc
    cases h
    exact ⟨hc.1, hc.2, Nat.lt_of_le_of_lt (Nat.min_le_left _ _) hp.2.2.1, Nat.lt_of_le_of_lt (Nat.min_le_left _ _) hp.2.2.2⟩
  · cases h
abbrev SP := Int × P4
def sharedP (ps : List SP) (b : P4) : List SP := ps.filterMap fun sp => (comP sp.2 b).map fun c => (-sp.1, c)
def stepP (ps : List SP) (b : P4) : List SP := ps ++ [(1, b)] ++ sharedP ps b
def partsP (bs : List P4) : List SP := bs.foldl stepP []
def sgP (l : List Bool) (ps : List SP) (K : Nat) : Int := (ps.map fun sp => sp.1 * b2i (inb l sp.2 K)).sum
theorem sg_shared (l : List Bool) (b : P4) (K : Nat) : ∀ ps : List SP, sgP l (sharedP ps b) K = -(sgP l ps K * b2i (inb l b K))
  | [] => by
    show (0 : Int) = -(0 * _)
    rw [Int.zero_mul]; rfl
  | sp :: ps => by
    have ih := sg_shared l b K ps
    have e := com_inb l sp.2 b K
    have e2 : sgP l (sp :: ps) K = sp.1 * b2i (inb l sp.2 K) + sgP l ps K := rfl
    rw [e2]
    unfold sharedP at ih ⊢
    rw [List.filterMap_cons]
    cases hc : comP sp.2 b with
    | none =>
      rw [hc] at e
      rw [Option.map_none]
      show sgP l (ps.filterMap _) K = _
      rw [ih, Int.add_mul, Int.mul_assoc, ← e, Int.mul_zero, Int.zero_add]
    | some c =>
      rw [hc] at e
      rw [Option.map_some]
      show -sp.1 * b2i (inb l c K) + sgP l (ps.filterMap _) K = _
      rw [ih, Int.add_mul, Int.mul_assoc, ← e]
      rw [Int.neg_mul, Int.neg_add]
theorem sg_app (l : List Bool) (K : Nat) (a b : List SP) : sgP l (a ++ b) K = sgP l a K + sgP l b K := by
  unfold sgP
  rw [List.map_append, List.sum_append]
def inU (l : List Bool) (bs : List P4) (K : Nat) : Bool := bs.any fun b => inb l b K
theorem sg_fold (l : List Bool) (K : Nat) : ∀ (bs : List P4) (ps : List SP) (c : Bool), sgP l ps K = b2i c → sgP l (bs.foldl stepP ps) K = b2i (c || inU l bs K)
  | [], ps, c, h => by
    show sgP l ps K = _
    rw [h, show inU l [] K = false from rfl, Bool.or_false]
  | b :: bs, ps, c, h => by
    have e : sgP l (stepP ps b) K = b2i (c || inb l b K) := by
      unfold stepP
      rw [sg_app, sg_app, sg_shared, h, show sgP l [((1 : Int), b)] K = 1 * b2i (inb l b K) + 0 from rfl]
      cases c <;> cases inb l b K <;> decide
    rw [List.foldl_cons, sg_fold l K bs _ _ e, Bool.or_assoc]
    rfl
theorem sg_parts (l : List Bool) (K : Nat) (bs : List P4) : sgP l (partsP bs) K = b2i (inU l bs K) := by
  have := sg_fold l K bs [] false rfl
  rw [Bool.false_or] at this
  exact this
def GoodP (l : List Bool) (ps : List SP) : Prop := ∀ sp ∈ ps, InBlk l sp.2 ∧ (sp.1 = 1 ∨ sp.1 = -1)
theorem good_shared {l : List Bool} {ps : List SP} {b : P4} (h : GoodP l ps) (hb : InBlk l b) : GoodP l (sharedP ps b) := by
  intro sp hs
  obtain ⟨tp, h1, h2⟩ := List.mem_filterMap.mp hs
  obtain ⟨c, hc, rfl⟩ := Option.map_eq_some_iff.mp h2
  refine ⟨com_in (h tp h1).1 hb hc, ?_⟩
  rcases (h tp h1).2 with e | e <;> rw [e]
  · exact .inr rfl
  · exact .inl rfl
theorem good_step {l : List Bool} {ps : List SP} {b : P4} (h : GoodP l ps) (hb : InBlk l b) : GoodP l (stepP ps b) ∧ (stepP ps b).length ≤ 2 * ps.length + 1 := by
  constructor
  · intro sp hs
    unfold stepP at hs
    rw [List.mem_append, List.mem_append] at hs
    rcases hs with (hs | hs) | hs
    · exact h sp hs
    · rw [List.mem_singleton] at hs
      rw [hs]
      exact ⟨hb, .inl rfl⟩
    · exact good_shared h hb sp hs
  · unfold stepP
    rw [List.length_append, List.length_append, List.length_singleton]
    have : (sharedP ps b).length ≤ ps.length := List.length_filterMap_le _ _
    omega
theorem good_fold {l : List Bool} : ∀ (bs : List P4) (ps : List SP), (∀ b ∈ bs, InBlk l b) → GoodP l ps → GoodP l (bs.foldl stepP ps) ∧ (bs.foldl stepP ps).length + 1 ≤ 2 ^ bs.length * (ps.length + 1)
  | [], ps, _, g => ⟨g, by show ps.length + 1 ≤ 2 ^ 0 * _; omega⟩
  | b :: bs, ps, h, g => by
    have s := good_step g (h b List.mem_cons_self)
    have ih := good_fold bs (stepP ps b) (fun c hc => h c (List.mem_cons_of_mem _ hc)) s.1
    refine ⟨ih.1, Nat.le_trans ih.2 ?_⟩
    rw [List.length_cons, Nat.pow_succ, Nat.mul_assoc]
    exact Nat.mul_le_mul_left _ (by omega)
theorem good_parts {l : List Bool} {bs : List P4} (h : ∀ b ∈ bs, InBlk l b) : GoodP l (partsP bs) ∧ (partsP bs).length + 1 ≤ 2 ^ bs.length := by
  have := good_fold (l := l) bs [] h fun sp hs => absurd hs List.not_mem_nil
  exact ⟨this.1, by have := this.2; rw [List.length_nil, Nat.zero_add, Nat.mul_one] at this; exact this⟩
/-- the cells of the boxes -/
def cU (l : List Bool) (bs : List P4) : Nat := (List.range (2 ^ l.length)).countP fun K => inU l bs K
theorem cells_parts {l : List Bool} {bs : List P4} (h : ∀ b ∈ bs, InBlk l b) : ((partsP bs).map fun sp => sp.1 * ((wP sp.2 * hP sp.2 : Nat) : Int)).sum = ((cU l bs : Nat) : Int) := by
  have g := (good_parts h).1
  have e1 : ((partsP bs).map fun sp => sp.1 * ((wP sp.2 * hP sp.2 : Nat) : Int)).sum = ((partsP bs).map fun sp => ((List.range (2 ^ l.length)).map fun K => sp.1 * b2i (inb l sp.2 K)).sum).sum :=
    sum_congr fun sp hs => by rw [sum_mul, ← count_sum, area_count (g sp hs).1]
  rw [e1, sum_swap]
  unfold cU
  rw [count_sum]
  exact sum_congr fun K _ => sg_parts l K bs
/-! #### cells whose key ahead is in another box -/
def oddI (d : Nat) (lo hi : Int) : Int := cmI d lo hi - cmI (d + 1) lo hi
def joinI (b : Bool) (i j : Nat) (p q : P4) : Int :=
  let dx : Int := if b = true then 1 else 1 - 2 ^ i
  let dy : Int := if b = true then 1 - 2 ^ j else 1
  let X1 : Int := max (p.1 : Int) ((q.1 : Int) + dx)
  let Y1 : Int := max (p.2.1 : Int) ((q.2.1 : Int) + dy)
  let X2 : Int := min (p.2.2.1 : Int) ((q.2.2.1 : Int) + dx)
  let Y2 : Int := min (p.2.2.2 : Int) ((q.2.2.2 : Int) + dy)
  if X1 ≤ X2 ∧ Y1 ≤ Y2 then (if b = true then oddI i X1 X2 * cmI j Y1 Y2 else oddI j Y1 Y2 * cmI i X1 X2) else 0
theorem cntB_prod (f g : Nat → Bool) (x1 y1 h : Nat) : ∀ w, cntB (fun x y => f x && g y) x1 y1 w h = (List.range w).countP (fun a => f (x1 + a)) * (List.range h).countP (fun b => g (y1 + b))
  | 0 => by
    show 0 = 0 * _
    rw [Nat.zero_mul]
  | w + 1 => by
    show cntB (fun x y => f x && g y) x1 y1 w h + (List.range h).countP (fun b => f (x1 + w) && g (y1 + b)) = _
    rw [cntB_prod f g x1 y1 h w, List.range_succ, List.countP_append, List.countP_cons, List.countP_nil, Nat.add_mul]
    congr 1
    cases f (x1 + w)
    · simp
    · simp
theorem cnt_sub (lo A B : Nat) (Q : Nat → Bool) : ∀ n, (List.range n).countP (fun a => decide (A ≤ lo + a ∧ lo + a < B) && Q (lo + a)) = (List.range (min (lo + n) B - max lo A)).countP (fun a => Q (max lo A + a))
  | 0 => by
    rw [show min (lo + 0) B - max lo A = 0 by omega]; rfl
  | n + 1 => by
    rw [List.range_succ, List.countP_append, cnt_sub lo A B Q n, List.countP_cons, List.countP_nil]
    by_cases e : A ≤ lo + n ∧ lo + n < B
    · rw [show min (lo + (n + 1)) B - max lo A = min (lo + n) B - max lo A + 1 by omega, List.range_succ, List.countP_append, List.countP_cons, List.countP_nil, decide_eq_true e, Bool.true_and]
      rw [show max lo A + (min (lo + n) B - max lo A) = lo + n by omega]
    · rw [show min (lo + (n + 1)) B - max lo A = min (lo + n) B - max lo A by omega, decide_eq_false e, Bool.false_and]
      rfl
theorem odd_side {lo n A B d : Nat} {X1 X2 : Int} (hX1 : X1 = ((max lo A : Nat) : Int)) (hX2 : X2 + 1 = ((min (lo + n) B : Nat) : Int)) (h : X1 ≤ X2) :
    (((List.range n).countP (fun a => decide (A ≤ lo + a ∧ lo + a < B) && decide ((lo + a) % 2 ^ (d + 1) = 2 ^ d)) : Nat) : Int) = oddI d X1 X2 := by
  rw [cnt_sub lo A B (fun z => decide (z % 2 ^ (d + 1) = 2 ^ d)) n]
  have e := oddm_eq d (max lo A) (min (lo + n) B - max lo A)
  have e1 := cm_mlt d (max lo A) (min (lo + n) B - max lo A)
  have e2 := cm_mlt (d + 1) (max lo A) (min (lo + n) B - max lo A)
  have e3 : ((max lo A : Nat) : Int) + ((min (lo + n) B - max lo A : Nat) : Int) - 1 = X2 := by omega
  rw [e3, ← hX1] at e1 e2
  unfold oddI
  rw [e1, e2]
  show ((oddm d (max lo A) (min (lo + n) B - max lo A) : Nat) : Int) = _
  omega
theorem mlt_side {lo n A B d : Nat} {X1 X2 : Int} (hX1 : X1 = ((max lo A : Nat) : Int)) (hX2 : X2 + 1 = ((min (lo + n) B : Nat) : Int)) (h : X1 ≤ X2) :
    (((List.range n).countP (fun a => decide (A ≤ lo + a ∧ lo + a < B) && decide ((lo + a) % 2 ^ d = 0)) : Nat) : Int) = cmI d X1 X2 := by
  rw [cnt_sub lo A B (fun z => decide (z % 2 ^ d = 0)) n]
  have e1 := cm_mlt d (max lo A) (min (lo + n) B - max lo A)
  have e3 : ((max lo A : Nat) : Int) + ((min (lo + n) B - max lo A : Nat) : Int) - 1 = X2 := by omega
  rw [e3, ← hX1] at e1
  rw [e1]
  rfl
theorem no_side {lo n A B : Nat} {Q : Nat → Bool} (h : min (lo + n) B ≤ max lo A) : (List.range n).countP (fun a => decide (A ≤ lo + a ∧ lo + a < B) && Q (lo + a)) = 0 := by
  rw [cnt_sub lo A B Q n, show min (lo + n) B - max lo A = 0 by omega]
  rfl
/-- the cells of p with their last digit 1 at this letter whose key ahead is in q -/
theorem join_x {pre suf : List Bool} {p q : P4} (hp : InBlk (pre ++ true :: suf) p) (hq : InBlk (pre ++ true :: suf) q) :
    ((cntP (fun x y => decide (keyL (pre ++ true :: suf) x y % 2 ^ (suf.length + 1) = 2 ^ suf.length) && inb (pre ++ true :: suf) q (keyL (pre ++ true :: suf) x y - 1)) p : Nat) : Int) = joinI true (nx suf) (ny suf) p q := by
  obtain ⟨x1, y1, x2, y2⟩ := p
  obtain ⟨x3, y3, x4, y4⟩ := q
  obtain ⟨h1, h2, h3, h4⟩ := hp
  obtain ⟨h5, h6, h7, h8⟩ := hq
  dsimp only at h1 h2 h3 h4 h5 h6 h7 h8
  have pj := two_pos (ny suf)
  have e3 : ny (pre ++ true :: suf) = ny pre + ny suf := by rw [ny_app, ny_t]
  have e : cntP (fun x y => decide (keyL (pre ++ true :: suf) x y % 2 ^ (suf.length + 1) = 2 ^ suf.length) && inb (pre ++ true :: suf) (x3, y3, x4, y4) (keyL (pre ++ true :: suf) x y - 1)) (x1, y1, x2, y2) =
      cntB (fun x y => (decide (x3 + 1 ≤ x ∧ x < x4 + 2) && decide (x % 2 ^ (nx suf + 1) = 2 ^ nx suf)) && (decide (y3 + 1 - 2 ^ ny suf ≤ y ∧ y < y4 + 2 - 2 ^ ny suf) && decide (y % 2 ^ ny suf = 0))) x1 y1 (x2 + 1 - x1) (y2 + 1 - y1) := by
    refine cntB_congr (h := y2 + 1 - y1) (x2 + 1 - x1) fun a b ha hb => ?_
    generalize hx : x1 + a = x
    generalize hy : y1 + b = y
    have bx : x < 2 ^ nx (pre ++ true :: suf) := Nat.lt_of_le_of_lt (by omega) h3
    have by_ : y < 2 ^ ny (pre ++ true :: suf) := Nat.lt_of_le_of_lt (by omega) h4
    rw [Bool.eq_iff_iff]
    simp only [Bool.and_eq_true, decide_eq_true_eq]
    constructor
    · rintro ⟨hr, hi⟩
      obtain ⟨c1, c2⟩ := rank_x pre suf hr
      obtain ⟨_, e2⟩ := pre_x pre suf c1 c2
      have hx1 := (odd_pre c1).1
      have hyl : y + 2 ^ ny suf - 1 < 2 ^ ny (pre ++ true :: suf) := by
        have := (mul_post c2).1
        rw [e3, Nat.pow_add, Nat.mul_comm]
        refine (Nat.div_lt_iff_lt_mul pj).mp ?_ |> fun h => by rw [Nat.mul_comm]; exact h
        rw [this]
        refine Nat.div_lt_of_lt_mul ?_
        rw [Nat.mul_comm, ← Nat.pow_add, ← e3]
        exact by_
      have z := xy_key (l := pre ++ true :: suf) (x := x - 1) (y := y + 2 ^ ny suf - 1) (by omega) hyl
      rw [show keyL (pre ++ true :: suf) x y - 1 = keyL (pre ++ true :: suf) (x - 1) (y + 2 ^ ny suf - 1) by omega] at hi
      unfold inb at hi
      have hi := of_decide_eq_true hi
      rw [z.1, z.2] at hi
      dsimp only at hi
      refine ⟨⟨by omega, c1⟩, by omega, c2⟩
    · rintro ⟨⟨c0, c1⟩, c4, c2⟩
      obtain ⟨e1, e2⟩ := pre_x pre suf c1 c2
      have z := xy_key (l := pre ++ true :: suf) (x := x - 1) (y := y + 2 ^ ny suf - 1) (by omega) (Nat.lt_of_le_of_lt (by omega) h8)
      refine ⟨e1, ?_⟩
      rw [show keyL (pre ++ true :: suf) x y - 1 = keyL (pre ++ true :: suf) (x - 1) (y + 2 ^ ny suf - 1) by omega]
      unfold inb
      rw [z.1, z.2]
      exact decide_eq_true (by dsimp only; omega)
  rw [e, cntB_prod (fun x => decide (x3 + 1 ≤ x ∧ x < x4 + 2) && decide (x % 2 ^ (nx suf + 1) = 2 ^ nx suf)) (fun y => decide (y3 + 1 - 2 ^ ny suf ≤ y ∧ y < y4 + 2 - 2 ^ ny suf) && decide (y % 2 ^ ny suf = 0))]
  unfold joinI
  dsimp only
  have ep : ((2 : Int) ^ ny suf) = ((2 ^ ny suf : Nat) : Int) := by rw [Int.natCast_pow]; rfl
  simp only [if_true, ep]
  generalize hJ : 2 ^ ny suf = J at pj ⊢
  by_cases hc : max (x1 : Int) ((x3 : Int) + 1) ≤ min (x2 : Int) ((x4 : Int) + 1) ∧ max (y1 : Int) ((y3 : Int) + (1 - (J : Int))) ≤ min (y2 : Int) ((y4 : Int) + (1 - (J : Int)))
  · have ms := mlt_side (lo := y1) (n := y2 + 1 - y1) (A := y3 + 1 - J) (B := y4 + 2 - J) (d := ny suf) (X1 := max (y1 : Int) ((y3 : Int) + (1 - (J : Int)))) (X2 := min (y2 : Int) ((y4 : Int) + (1 - (J : Int)))) (by omega) (by omega) hc.2
    rw [hJ] at ms
    rw [if_pos hc, Int.natCast_mul, odd_side (X1 := max (x1 : Int) ((x3 : Int) + 1)) (X2 := min (x2 : Int) ((x4 : Int) + 1)) (by omega) (by omega) hc.1, ms]
  · rw [if_neg hc]
    by_cases hx : min (x1 + (x2 + 1 - x1)) (x4 + 2) ≤ max x1 (x3 + 1)
    · rw [no_side (Q := fun x => decide (x % 2 ^ (nx suf + 1) = 2 ^ nx suf)) hx, Nat.zero_mul]; rfl
    · rw [no_side (Q := fun y => decide (y % J = 0)) (lo := y1) (n := y2 + 1 - y1) (A := y3 + 1 - J) (B := y4 + 2 - J) (by omega), Nat.mul_zero]; rfl
theorem join_y {pre suf : List Bool} {p q : P4} (hp : InBlk (pre ++ false :: suf) p) (hq : InBlk (pre ++ false :: suf) q) :
    ((cntP (fun x y => decide (keyL (pre ++ false :: suf) x y % 2 ^ (suf.length + 1) = 2 ^ suf.length) && inb (pre ++ false :: suf) q (keyL (pre ++ false :: suf) x y - 1)) p : Nat) : Int) = joinI false (nx suf) (ny suf) p q := by
  obtain ⟨x1, y1, x2, y2⟩ := p
  obtain ⟨x3, y3, x4, y4⟩ := q
  obtain ⟨h1, h2, h3, h4⟩ := hp
  obtain ⟨h5, h6, h7, h8⟩ := hq
  dsimp only at h1 h2 h3 h4 h5 h6 h7 h8
  have pj := two_pos (nx suf)
  have e3 : nx (pre ++ false :: suf) = nx pre + nx suf := by rw [nx_app, nx_f]
  have e : cntP (fun x y => decide (keyL (pre ++ false :: suf) x y % 2 ^ (suf.length + 1) = 2 ^ suf.length) && inb (pre ++ false :: suf) (x3, y3, x4, y4) (keyL (pre ++ false :: suf) x y - 1)) (x1, y1, x2, y2) =
      cntB (fun x y => (decide (x3 + 1 - 2 ^ nx suf ≤ x ∧ x < x4 + 2 - 2 ^ nx suf) && decide (x % 2 ^ nx suf = 0)) && (decide (y3 + 1 ≤ y ∧ y < y4 + 2) && decide (y % 2 ^ (ny suf + 1) = 2 ^ ny suf))) x1 y1 (x2 + 1 - x1) (y2 + 1 - y1) := by
    refine cntB_congr (h := y2 + 1 - y1) (x2 + 1 - x1) fun a b ha hb => ?_
    generalize hx : x1 + a = x
    generalize hy : y1 + b = y
    have bx : x < 2 ^ nx (pre ++ false :: suf) := Nat.lt_of_le_of_lt (by omega) h3
    have by_ : y < 2 ^ ny (pre ++ false :: suf) := Nat.lt_of_le_of_lt (by omega) h4
    rw [Bool.eq_iff_iff]
    simp only [Bool.and_eq_true, decide_eq_true_eq]
    constructor
    · rintro ⟨hr, hi⟩
      obtain ⟨c1, c2⟩ := rank_y pre suf hr
      obtain ⟨_, e2⟩ := pre_y pre suf c1 c2
      have hy1 := (odd_pre c1).1
      have hxl : x + 2 ^ nx suf - 1 < 2 ^ nx (pre ++ false :: suf) := by
        have := (mul_post c2).1
        rw [e3, Nat.pow_add, Nat.mul_comm]
        refine (Nat.div_lt_iff_lt_mul pj).mp ?_ |> fun h => by rw [Nat.mul_comm]; exact h
        rw [this]
        refine Nat.div_lt_of_lt_mul ?_
        rw [Nat.mul_comm, ← Nat.pow_add, ← e3]
        exact bx
      have z := xy_key (l := pre ++ false :: suf) (x := x + 2 ^ nx suf - 1) (y := y - 1) hxl (by omega)
      rw [show keyL (pre ++ false :: suf) x y - 1 = keyL (pre ++ false :: suf) (x + 2 ^ nx suf - 1) (y - 1) by omega] at hi
      unfold inb at hi
      have hi := of_decide_eq_true hi
      rw [z.1, z.2] at hi
      dsimp only at hi
      refine ⟨⟨by omega, c2⟩, by omega, c1⟩
    · rintro ⟨⟨c4, c2⟩, c0, c1⟩
      obtain ⟨e1, e2⟩ := pre_y pre suf c1 c2
      have z := xy_key (l := pre ++ false :: suf) (x := x + 2 ^ nx suf - 1) (y := y - 1) (Nat.lt_of_le_of_lt (by omega) h7) (by omega)
      refine ⟨e1, ?_⟩
      rw [show keyL (pre ++ false :: suf) x y - 1 = keyL (pre ++ false :: suf) (x + 2 ^ nx suf - 1) (y - 1) by omega]
      unfold inb
      rw [z.1, z.2]
      exact decide_eq_true (by dsimp only; omega)
  rw [e, cntB_prod (fun x => decide (x3 + 1 - 2 ^ nx suf ≤ x ∧ x < x4 + 2 - 2 ^ nx suf) && decide (x % 2 ^ nx suf = 0)) (fun y => decide (y3 + 1 ≤ y ∧ y < y4 + 2) && decide (y % 2 ^ (ny suf + 1) = 2 ^ ny suf))]
  unfold joinI
  dsimp only
  have ep : ((2 : Int) ^ nx suf) = ((2 ^ nx suf : Nat) : Int) := by rw [Int.natCast_pow]; rfl
  simp only [if_false, ep, Bool.false_eq_true]
  generalize hJ : 2 ^ nx suf = J at pj ⊢
  by_cases hc : max (x1 : Int) ((x3 : Int) + (1 - (J : Int))) ≤ min (x2 : Int) ((x4 : Int) + (1 - (J : Int))) ∧ max (y1 : Int) ((y3 : Int) + 1) ≤ min (y2 : Int) ((y4 : Int) + 1)
  · have ms := mlt_side (lo := x1) (n := x2 + 1 - x1) (A := x3 + 1 - J) (B := x4 + 2 - J) (d := nx suf) (X1 := max (x1 : Int) ((x3 : Int) + (1 - (J : Int)))) (X2 := min (x2 : Int) ((x4 : Int) + (1 - (J : Int)))) (by omega) (by omega) hc.1
    rw [hJ] at ms
    rw [if_pos hc, Int.natCast_mul, Int.mul_comm, odd_side (X1 := max (y1 : Int) ((y3 : Int) + 1)) (X2 := min (y2 : Int) ((y4 : Int) + 1)) (by omega) (by omega) hc.2, ms]
  · rw [if_neg hc]
    by_cases hx : min (y1 + (y2 + 1 - y1)) (y4 + 2) ≤ max y1 (y3 + 1)
    · rw [no_side (Q := fun y => decide (y % 2 ^ (ny suf + 1) = 2 ^ ny suf)) hx, Nat.mul_zero]; rfl
    · rw [no_side (Q := fun x => decide (x % J = 0)) (lo := x1) (n := x2 + 1 - x1) (A := x3 + 1 - J) (B := x4 + 2 - J) (by omega), Nat.zero_mul]; rfl
theorem feetL_range (l : List Bool) : feetL l = (List.range l.length).map fun t => (l.getD t true, nx (l.drop (t + 1)), ny (l.drop (t + 1))) := by
  refine List.ext_getElem? fun t => ?_
  rw [List.getElem?_map]
  by_cases h : t < l.length
  · have := feetL_get l t h
    rw [List.getElem?_range h, Option.map_some, this]
    rw [List.getD_eq_getElem?_getD, List.getElem?_eq_getElem h]
    rfl
  · rw [List.getElem?_eq_none (l := List.range l.length) (by rw [List.length_range]; omega), Option.map_none, List.getElem?_eq_none_iff]
    have : (feetL l).length = l.length := by
      clear h
      induction l with
      | nil => rfl
      | cons b r ih => show (feetL r).length + 1 = _; rw [ih]; rfl
    omega
theorem join_count {l : List Bool} {p q : P4} (hp : InBlk l p) (hq : InBlk l q) {t : Nat} (ht : t < l.length) :
    joinI (l.getD t true) (nx (l.drop (t + 1))) (ny (l.drop (t + 1))) p q = ((List.range (2 ^ l.length)).map fun K => b2i (inb l p K) * (b2i (pT l.length t K) * b2i (inb l q (K - 1)))).sum := by
  have e : ((List.range (2 ^ l.length)).map fun K => b2i (inb l p K) * (b2i (pT l.length t K) * b2i (inb l q (K - 1)))) = (List.range (2 ^ l.length)).map fun K => b2i (inb l p K && (pT l.length t K && inb l q (K - 1))) :=
    List.map_congr_left fun K _ => by rw [b2i_and, b2i_and]
  rw [e, ← count_sum, key_count hp fun K => pT l.length t K && inb l q (K - 1)]
  have sp : l = l.take t ++ l[t] :: l.drop (t + 1) := by rw [← List.drop_eq_getElem_cons ht, List.take_append_drop]
  have ls : (l.drop (t + 1)).length = l.length - 1 - t := by rw [List.length_drop]; omega
  have eg : l.getD t true = l[t] := by rw [List.getD_eq_getElem?_getD, List.getElem?_eq_getElem ht]; rfl
  rw [eg]
  generalize hpre : l.take t = pre at sp
  generalize hsuf : l.drop (t + 1) = suf at sp ls ⊢
  generalize hb : l[t] = c at sp ⊢
  unfold pT
  rw [← ls]
  clear hpre hsuf hb e eg
  subst sp
  cases c with
  | true => exact (join_x hp hq).symm
  | false => exact (join_y hp hq).symm
theorem pT_all {n K : Nat} (h : K < 2 ^ n) : ((List.range n).map fun t => b2i (pT n t K)).sum = b2i (decide (1 ≤ K)) := by
  by_cases h1 : 1 ≤ K
  · rw [decide_eq_true h1]
    exact pT_sum h1 h
  · rw [decide_eq_false h1]
    have : ((List.range n).map fun t => b2i (pT n t K)) = (List.range n).map fun _ => (0 : Int) := List.map_congr_left fun t _ => by
      unfold pT
      rw [decide_eq_false]
      · rfl
      · rw [show K = 0 by omega, Nat.zero_mod]
        have := two_pos (n - 1 - t)
        omega
    rw [this, sum_zero]
    rfl
theorem join_all {l : List Bool} {p q : P4} (hp : InBlk l p) (hq : InBlk l q) :
    ((feetL l).map fun f => joinI f.1 f.2.1 f.2.2 p q).sum = ((List.range (2 ^ l.length)).map fun K => b2i (inb l p K) * (b2i (decide (1 ≤ K)) * b2i (inb l q (K - 1)))).sum := by
  rw [feetL_range, List.map_map]
  have e : (List.range l.length).map ((fun f : Bool × Nat × Nat => joinI f.1 f.2.1 f.2.2 p q) ∘ fun t => (l.getD t true, nx (l.drop (t + 1)), ny (l.drop (t + 1)))) = (List.range l.length).map fun t => ((List.range (2 ^ l.length)).map fun K => b2i (inb l p K) * (b2i (pT l.length t K) * b2i (inb l q (K - 1)))).sum :=
    List.map_congr_left fun t ht => join_count hp hq (List.mem_range.mp ht)
  rw [e, sum_swap]
  refine sum_congr fun K hK => ?_
  rw [← pT_all (List.mem_range.mp hK), sum_mul]
  congr 1
  rw [Int.mul_comm, ← sum_mul]
  exact sum_congr fun t _ => Int.mul_comm _ _
/-- cells of the boxes whose key ahead is one of the boxes, too -/
def jU (l : List Bool) (bs : List P4) : Nat := (List.range (2 ^ l.length)).countP fun K => inU l bs K && (decide (1 ≤ K) && inU l bs (K - 1))
/-- cells of the boxes that begin a run -/
def rU (l : List Bool) (bs : List P4) : Nat := (List.range (2 ^ l.length)).countP fun K => inU l bs K && !(decide (1 ≤ K) && inU l bs (K - 1))
theorem countP_split {α : Type} (a b : α → Bool) : ∀ xs : List α, xs.countP (fun K => a K && !b K) + xs.countP (fun K => a K && b K) = xs.countP a
  | [] => rfl
  | K :: xs => by
    have ih := countP_split a b xs
    rw [List.countP_cons, List.countP_cons, List.countP_cons]
    cases a K <;> cases b K <;> simp only [Bool.and_true, Bool.and_false, Bool.not_true, Bool.not_false, if_true, if_false, Bool.false_eq_true] <;> omega
theorem runs_join (l : List Bool) (bs : List P4) : rU l bs + jU l bs = cU l bs := countP_split _ _ _
theorem join_parts {l : List Bool} {bs : List P4} (h : ∀ b ∈ bs, InBlk l b) :
    ((feetL l).map fun f => ((partsP bs).map fun sp => ((partsP bs).map fun tp => sp.1 * tp.1 * joinI f.1 f.2.1 f.2.2 sp.2 tp.2).sum).sum).sum = ((jU l bs : Nat) : Int) := by
  have g := (good_parts h).1
  rw [sum_swap]
  have e : ((partsP bs).map fun sp => ((feetL l).map fun f => ((partsP bs).map fun tp => sp.1 * tp.1 * joinI f.1 f.2.1 f.2.2 sp.2 tp.2).sum).sum) = (partsP bs).map fun sp => ((List.range (2 ^ l.length)).map fun K => (sp.1 * b2i (inb l sp.2 K)) * (b2i (decide (1 ≤ K)) * sgP l (partsP bs) (K - 1))).sum := by
    refine List.map_congr_left fun sp hs => ?_
    rw [sum_swap]
    have e2 : ((partsP bs).map fun tp => ((feetL l).map fun f => sp.1 * tp.1 * joinI f.1 f.2.1 f.2.2 sp.2 tp.2).sum) = (partsP bs).map fun tp => ((List.range (2 ^ l.length)).map fun K => (sp.1 * b2i (inb l sp.2 K)) * (b2i (decide (1 ≤ K)) * (tp.1 * b2i (inb l tp.2 (K - 1))))).sum := by
      refine List.map_congr_left fun tp ht => ?_
      rw [sum_mul, join_all (g sp hs).1 (g tp ht).1, ← sum_mul]
      refine sum_congr fun K _ => ?_
      generalize b2i (inb l sp.2 K) = a
      generalize b2i (decide (1 ≤ K)) = b
      generalize b2i (inb l tp.2 (K - 1)) = c
      generalize sp.1 = s
      generalize tp.1 = t
      rw [show s * t * (a * (b * c)) = (s * a) * (t * (b * c)) by ac_rfl, show t * (b * c) = b * (t * c) by ac_rfl]
    rw [e2, sum_swap]
    refine sum_congr fun K _ => ?_
    rw [sum_mul, sum_mul]
    rfl
  rw [e, sum_swap]
  unfold jU
  rw [count_sum]
  refine sum_congr fun K _ => ?_
  have e3 : ((partsP bs).map fun sp => sp.1 * b2i (inb l sp.2 K) * (b2i (decide (1 ≤ K)) * sgP l (partsP bs) (K - 1))) = (partsP bs).map fun sp => (b2i (decide (1 ≤ K)) * sgP l (partsP bs) (K - 1)) * (sp.1 * b2i (inb l sp.2 K)) := List.map_congr_left fun sp _ => Int.mul_comm _ _
  rw [e3, sum_mul, show ((partsP bs).map fun sp => sp.1 * b2i (inb l sp.2 K)).sum = sgP l (partsP bs) K from rfl, sg_parts, sg_parts, b2i_and, b2i_and]
  exact Int.mul_comm _ _
/-! #### one box, and boxes with the same cells -/
theorem inU_one (l : List Bool) (p : P4) (K : Nat) : inU l [p] K = inb l p K := by
  show (inb l p K || false) = _
  rw [Bool.or_false]
theorem cU_one {l : List Bool} {p : P4} (h : InBlk l p) : cU l [p] = wP p * hP p := by
  unfold cU
  rw [← area_count h]
  congr 1
  funext K
  exact inU_one l p K
theorem U_congr {l : List Bool} {bs cs : List P4} (h : ∀ K, inU l bs K = inU l cs K) : cU l bs = cU l cs ∧ rU l bs = rU l cs := by
  unfold cU rU
  rw [show (fun K => inU l bs K) = fun K => inU l cs K from funext h]
  refine ⟨rfl, ?_⟩
  congr 1
  funext K
  rw [h, h]
theorem rU_one {l : List Bool} {p : P4} (h : InBlk l p) : ((rU l [p] : Nat) : Int) = runsZ l p.1 p.2.1 p.2.2.1 p.2.2.2 := by
  obtain ⟨x1, y1, x2, y2⟩ := p
  have b : Bx l x1 y1 x2 y2 := ⟨h.1, h.2.1, h.2.2.1, h.2.2.2⟩
  have r := runs_join l [(x1, y1, x2, y2)]
  rw [cU_one h] at r
  rw [runs_nb b]
  have hn : jU l [(x1, y1, x2, y2)] = nb l x1 y1 x2 y2 := by
    unfold jU nb
    rw [boxN_cntB]
    have e : (fun K => inU l [(x1, y1, x2, y2)] K && (decide (1 ≤ K) && inU l [(x1, y1, x2, y2)] (K - 1))) = fun K => inb l (x1, y1, x2, y2) K && (decide (1 ≤ K) && inb l (x1, y1, x2, y2) (K - 1)) := by
      funext K
      rw [inU_one, inU_one]
    rw [e, key_count h fun K => decide (1 ≤ K) && inb l (x1, y1, x2, y2) (K - 1)]
    refine cntB_congr (h := y2 + 1 - y1) (x2 + 1 - x1) fun a c ha hc => ?_
    have kl := keyL_lt l (x1 + a) (y1 + c)
    generalize keyL l (x1 + a) (y1 + c) = K at kl
    rw [Bool.eq_iff_iff, pred_iff, Bool.and_eq_true, decide_eq_true_iff]
    constructor
    · rintro ⟨h1, h2⟩
      rw [inb_iff_key h (by omega), List.contains_iff_mem] at h2
      exact ⟨K - 1, h2, by omega⟩
    · rintro ⟨k, h1, h2⟩
      refine ⟨by omega, ?_⟩
      rw [inb_iff_key h (by omega), List.contains_iff_mem, show K - 1 = k by omega]
      exact h1
  have hwh : wP (x1, y1, x2, y2) * hP (x1, y1, x2, y2) = (x2 + 1 - x1) * (y2 + 1 - y1) := rfl
  omega
theorem U_app (l : List Bool) (bs cs : List P4) (K : Nat) : inU l (bs ++ cs) K = (inU l bs K || inU l cs K) := List.any_append
theorem rU_le (l : List Bool) (bs cs : List P4) : rU l (bs ++ cs) ≤ rU l bs + rU l cs := by
  unfold rU
  generalize List.range (2 ^ l.length) = xs
  induction xs with
  | nil => exact Nat.le_refl _
  | cons K xs ih =>
    simp only [List.countP_cons]
    rw [U_app, U_app]
    cases inU l bs K <;> cases inU l cs K <;> cases decide (1 ≤ K) <;> cases inU l bs (K - 1) <;> cases inU l cs (K - 1) <;> simp at ih ⊢ <;> omega
theorem cU_le (l : List Bool) (bs cs : List P4) : cU l bs ≤ cU l (bs ++ cs) := by
  unfold cU
  refine List.countP_mono_left fun K _ h => ?_
  rw [U_app, h, Bool.true_or]
end Lk

set_option Elab.async false
set_option linter.all false
set_option maxRecDepth 100000
set_option maxHeartbeats 4000000
namespace Lk
/-! ### the box of a block of keys -/
def blkP (l : List Bool) (t m : Nat) : P4 := (xOf l (m * 2 ^ t), yOf l (m * 2 ^ t), xOf l (m * 2 ^ t + (2 ^ t - 1)), yOf l (m * 2 ^ t + (2 ^ t - 1)))
theorem xy_top (l : List Bool) : xOf l (2 ^ l.length - 1) = 2 ^ nx l - 1 ∧ yOf l (2 ^ l.length - 1) = 2 ^ ny l - 1 := by
  have e := keyL_ones l
  have px := two_pos (nx l)
  have py := two_pos (ny l)
  have z := xy_key (l := l) (x := 2 ^ nx l - 1) (y := 2 ^ ny l - 1) (by omega) (by omega)
  rw [show keyL l (2 ^ nx l - 1) (2 ^ ny l - 1) = 2 ^ l.length - 1 by omega] at z
  exact z
theorem split_at {l : List Bool} {t : Nat} (ht : t ≤ l.length) : ∃ pre suf, l = pre ++ suf ∧ suf.length = t ∧ suf = l.drop (l.length - t) := ⟨l.take (l.length - t), l.drop (l.length - t), (List.take_append_drop _ _).symm, by rw [List.length_drop]; omega, rfl⟩
theorem blk_sides {pre suf : List Bool} {m : Nat} : blkP (pre ++ suf) suf.length m = (xOf pre m * 2 ^ nx suf, yOf pre m * 2 ^ ny suf, xOf pre m * 2 ^ nx suf + (2 ^ nx suf - 1), yOf pre m * 2 ^ ny suf + (2 ^ ny suf - 1)) := by
  have pt := two_pos suf.length
  have x0 := xOf_app pre suf m 0 pt
  have y0 := yOf_app pre suf m 0 pt
  have x1 := xOf_app pre suf m (2 ^ suf.length - 1) (by omega)
  have y1 := yOf_app pre suf m (2 ^ suf.length - 1) (by omega)
  rw [Nat.add_zero, xOf_zero, Nat.add_zero] at x0
  rw [Nat.add_zero, yOf_zero, Nat.add_zero] at y0
  rw [(xy_top suf).1] at x1
  rw [(xy_top suf).2] at y1
  unfold blkP
  rw [x0, y0, x1, y1]
theorem blk_good {l : List Bool} {t m : Nat} (ht : t ≤ l.length) (hm : m < 2 ^ (l.length - t)) : InBlk l (blkP l t m) := by
  obtain ⟨pre, suf, rfl, rfl, _⟩ := split_at ht
  rw [blk_sides]
  have px := two_pos (nx suf)
  have py := two_pos (ny suf)
  have hx := xOf_lt pre m
  have hy := yOf_lt pre m
  have hx' : (xOf pre m + 1) * 2 ^ nx suf ≤ 2 ^ nx pre * 2 ^ nx suf := Nat.mul_le_mul_right _ hx
  have hy' : (yOf pre m + 1) * 2 ^ ny suf ≤ 2 ^ ny pre * 2 ^ ny suf := Nat.mul_le_mul_right _ hy
  rw [← Nat.pow_add, Nat.add_mul, Nat.one_mul] at hx' hy'
  refine ⟨Nat.le_add_right _ _, Nat.le_add_right _ _, ?_, ?_⟩
  · rw [nx_app]; dsimp only; omega
  · rw [ny_app]; dsimp only; omega
theorem blk_inb {l : List Bool} {t m K : Nat} (ht : t ≤ l.length) (hm : m < 2 ^ (l.length - t)) (hK : K < 2 ^ l.length) : inb l (blkP l t m) K = decide (m * 2 ^ t ≤ K ∧ K < m * 2 ^ t + 2 ^ t) := by
  obtain ⟨pre, suf, rfl, rfl, _⟩ := split_at ht
  rw [show (pre ++ suf).length - suf.length = pre.length by rw [List.length_append]; omega] at hm
  have hx := xOf_lt (pre ++ suf) K
  have hy := yOf_lt (pre ++ suf) K
  have k := key_in_block hx hy hm
  rw [keyL_cell, Nat.mod_eq_of_lt hK, div_iff (two_pos _), div_iff (two_pos _), div_iff (two_pos _)] at k
  have px := two_pos (nx suf)
  have py := two_pos (ny suf)
  unfold inb
  rw [blk_sides, Bool.eq_iff_iff, decide_eq_true_iff, decide_eq_true_iff, k]
  dsimp only
  omega
/-- keys in one stretch -/
theorem cnt_one {N a : Nat} (h : a < N) : (List.range N).countP (fun K => decide (K = a)) = 1 := by
  have e := count_sum (fun K => decide (K = a)) (List.range N)
  have e2 : (List.range N).map (fun K => b2i (decide (K = a))) = (List.range N).map fun t => if t = a then (1 : Int) else 0 := List.map_congr_left fun K _ => by
    by_cases h : K = a
    · rw [if_pos h, decide_eq_true h]; rfl
    · rw [if_neg h, decide_eq_false h]; rfl
  rw [e2, sum_ind, if_pos h] at e
  omega
theorem U_stretch {l : List Bool} {bs : List P4} {lo hi : Nat} (h : ∀ K, K < 2 ^ l.length → inU l bs K = decide (lo ≤ K ∧ K < hi)) (h1 : lo < hi) (h2 : hi ≤ 2 ^ l.length) : cU l bs = hi - lo ∧ rU l bs = 1 := by
  constructor
  · unfold cU
    rw [← count_between lo hi _ h2]
    refine List.countP_congr fun K hK => ?_
    rw [h K (List.mem_range.mp hK), ← Bool.decide_and]
  · unfold rU
    refine Eq.trans (List.countP_congr fun K hK => ?_) (cnt_one (show lo < 2 ^ l.length by omega))
    have hK := List.mem_range.mp hK
    rw [h K hK, h (K - 1) (by omega)]
    simp only [Bool.and_eq_true, Bool.not_eq_true', Bool.and_eq_false_iff, decide_eq_true_eq, decide_eq_false_iff_not]
    omega
theorem blk_end {l : List Bool} {t m : Nat} (ht : t ≤ l.length) (hm : m < 2 ^ (l.length - t)) : m * 2 ^ t + 2 ^ t ≤ 2 ^ l.length := by
  have h : (m + 1) * 2 ^ t ≤ 2 ^ (l.length - t) * 2 ^ t := Nat.mul_le_mul_right _ hm
  rw [← Nat.pow_add, show l.length - t + t = l.length by omega, Nat.add_mul, Nat.one_mul] at h
  exact h
theorem blk_U {l : List Bool} {t m : Nat} (ht : t ≤ l.length) (hm : m < 2 ^ (l.length - t)) : cU l [blkP l t m] = 2 ^ t ∧ rU l [blkP l t m] = 1 := by
  have pt := two_pos t
  have := U_stretch (l := l) (bs := [blkP l t m]) (lo := m * 2 ^ t) (hi := m * 2 ^ t + 2 ^ t) (fun K hK => by rw [inU_one, blk_inb ht hm hK]) (by omega) (blk_end ht hm)
  exact ⟨by rw [this.1]; omega, this.2⟩
theorem blk_runs {l : List Bool} {t m : Nat} (ht : t ≤ l.length) (hm : m < 2 ^ (l.length - t)) : runsZ l (blkP l t m).1 (blkP l t m).2.1 (blkP l t m).2.2.1 (blkP l t m).2.2.2 = 1 := by
  rw [← rU_one (blk_good ht hm), (blk_U ht hm).2]
  rfl
theorem blk_area {l : List Bool} {t m : Nat} (ht : t ≤ l.length) (hm : m < 2 ^ (l.length - t)) : wP (blkP l t m) * hP (blkP l t m) = 2 ^ t := by
  rw [← cU_one (blk_good ht hm), (blk_U ht hm).1]
theorem blk_ends {l : List Bool} {t m : Nat} (ht : t ≤ l.length) (hm : m < 2 ^ (l.length - t)) : keyL l (blkP l t m).1 (blkP l t m).2.1 = m * 2 ^ t ∧ keyL l (blkP l t m).2.2.1 (blkP l t m).2.2.2 = m * 2 ^ t + (2 ^ t - 1) := by
  have pt := two_pos t
  have e := blk_end ht hm
  unfold blkP
  exact ⟨by rw [keyL_cell, Nat.mod_eq_of_lt (by omega)], by rw [keyL_cell, Nat.mod_eq_of_lt (by omega)]⟩
/-- two blocks that follow one another -/
theorem blk_two {l : List Bool} {t m : Nat} (ht : t ≤ l.length) (hm : m + 1 < 2 ^ (l.length - t)) : cU l [blkP l t m, blkP l t (m + 1)] = 2 * 2 ^ t ∧ rU l [blkP l t (m + 1), blkP l t m] = 1 := by
  have pt := two_pos t
  have e := blk_end ht hm
  have e2 : (m + 1) * 2 ^ t = m * 2 ^ t + 2 ^ t := by rw [Nat.add_mul, Nat.one_mul]
  have h1 : ∀ K, K < 2 ^ l.length → inU l [blkP l t m, blkP l t (m + 1)] K = decide (m * 2 ^ t ≤ K ∧ K < m * 2 ^ t + 2 * 2 ^ t) := fun K hK => by
    show (inb l (blkP l t m) K || (inb l (blkP l t (m + 1)) K || false)) = _
    rw [blk_inb ht (by omega) hK, blk_inb ht hm hK, e2, Bool.eq_iff_iff, Bool.or_false, Bool.or_eq_true]
    simp only [decide_eq_true_eq]
    omega
  have h2 : ∀ K, K < 2 ^ l.length → inU l [blkP l t (m + 1), blkP l t m] K = decide (m * 2 ^ t ≤ K ∧ K < m * 2 ^ t + 2 * 2 ^ t) := fun K hK => by
    rw [← h1 K hK]
    show (inb l (blkP l t (m + 1)) K || (inb l (blkP l t m) K || false)) = (inb l (blkP l t m) K || (inb l (blkP l t (m + 1)) K || false))
    rw [Bool.or_false, Bool.or_false, Bool.or_comm]
  have u1 := U_stretch h1 (by omega) (by omega)
  have u2 := U_stretch h2 (by omega) (by omega)
  exact ⟨by rw [u1.1]; omega, u2.2⟩
/-- its blocks: itself -/
theorem inK_inb {l : List Bool} {p : P4} {K : Nat} : inK l p K ↔ inb l p K = true := by
  unfold inK inb
  rw [decide_eq_true_iff]
theorem sum_ge (f : Nat → Nat) {T : Nat} : ∀ n, T < n → f T ≤ ((List.range n).map f).sum
  | 0, h => absurd h (Nat.not_lt_zero _)
  | n + 1, h => by
    rw [List.range_succ, List.map_append, List.sum_append, List.map_cons, List.map_nil, List.sum_cons, List.sum_nil]
    rcases Nat.lt_or_ge T n with e | e
    · have := sum_ge f n e; omega
    · rw [show T = n by omega]; omega
theorem sum_ge2 (f : Nat → Nat) {T s : Nat} (hs : s ≠ T) : ∀ n, T < n → s < n → f T + f s ≤ ((List.range n).map f).sum
  | 0, h, _ => absurd h (Nat.not_lt_zero _)
  | n + 1, h, h' => by
    rw [List.range_succ, List.map_append, List.sum_append, List.map_cons, List.map_nil, List.sum_cons, List.sum_nil]
    rcases Nat.lt_or_ge T n with e | e <;> rcases Nat.lt_or_ge s n with e' | e'
    · have := sum_ge2 f hs n e e'; omega
    · have := sum_ge f n e; rw [show s = n by omega]; omega
    · have := sum_ge f n e'; rw [show T = n by omega]; omega
    · omega
theorem blk_gr {l : List Bool} {t m : Nat} (ht : t ≤ l.length) (hm : m < 2 ^ (l.length - t)) {s : Nat} (hs : s ≤ l.length) : gr l (blkP l t m) l.length 0 s = if s = t then 1 else 0 := by
  have pt := two_pos t
  have he := blk_end ht hm
  have g := blk_good ht hm
  have b : Bx l (blkP l t m).1 (blkP l t m).2.1 (blkP l t m).2.2.1 (blkP l t m).2.2.2 := ⟨g.1, g.2.1, g.2.2.1, g.2.2.2⟩
  have a := gr_sum l (blkP l t m) l.length (l.length + 1) (Nat.le_refl _)
  rw [if_neg (by omega), Nat.add_zero, wc_area b] at a
  have ar := blk_area ht hm
  have ea : ((blkP l t m).2.2.1 + 1 - (blkP l t m).1) * ((blkP l t m).2.2.2 + 1 - (blkP l t m).2.1) = 2 ^ t := ar
  rw [ea] at a
  have kd : m * 2 ^ t / 2 ^ t = m := Nat.mul_div_cancel _ pt
  have inK_ : ∀ {K}, K < 2 ^ l.length → (inK l (blkP l t m) K ↔ (m * 2 ^ t ≤ K ∧ K < m * 2 ^ t + 2 ^ t)) := fun {K} hK => by
    rw [inK_inb, blk_inb ht hm hK, decide_eq_true_iff]
  have hw : whole l (blkP l t m) t (m * 2 ^ t / 2 ^ t) := by
    rw [kd]
    intro r hr
    exact (inK_ (by omega)).mpr ⟨by omega, by omega⟩
  have hn : ∀ s, t < s → s ≤ l.length → ¬ whole l (blkP l t m) s (m * 2 ^ t / 2 ^ s) := by
    intro s h1 h2 h3
    have ps := two_pos s
    have dm := Nat.div_add_mod (m * 2 ^ t) (2 ^ s)
    rw [Nat.mul_comm] at dm
    have lm := Nat.mod_lt (m * 2 ^ t) ps
    have big : 2 * 2 ^ t ≤ 2 ^ s := by
      rw [← Nat.pow_succ']
      exact Nat.pow_le_pow_right (by decide) h1
    have q0 := h3 0 ps
    have q1 := h3 (2 ^ s - 1) (by omega)
    have top : m * 2 ^ t / 2 ^ s * 2 ^ s + 2 ^ s ≤ 2 ^ l.length := by
      have h5 : m * 2 ^ t / 2 ^ s < 2 ^ (l.length - s) := Nat.div_lt_of_lt_mul (by rw [← Nat.pow_add, show s + (l.length - s) = l.length by omega]; omega)
      exact blk_end h2 h5
    have r0 := (inK_ (by omega)).mp q0
    have r1 := (inK_ (by omega)).mp q1
    omega
  have g1 := gr_at hw hn (l.length - t) (by omega)
  rw [show t + (l.length - t) = l.length by omega, Nat.div_eq_of_lt (by omega)] at g1
  have s1 : gr l (blkP l t m) l.length 0 t * 2 ^ t ≤ _ := sum_ge (fun s => gr l (blkP l t m) l.length 0 s * 2 ^ s) (l.length + 1) (show t < l.length + 1 by omega)
  have gt1 : gr l (blkP l t m) l.length 0 t = 1 := by
    rcases Nat.lt_or_ge 1 (gr l (blkP l t m) l.length 0 t) with e | e
    · have : 2 * 2 ^ t ≤ gr l (blkP l t m) l.length 0 t * 2 ^ t := Nat.mul_le_mul_right _ e
      omega
    · omega
  by_cases e : s = t
  · rw [if_pos e, e, gt1]
  · rw [if_neg e]
    have s2 : gr l (blkP l t m) l.length 0 t * 2 ^ t + gr l (blkP l t m) l.length 0 s * 2 ^ s ≤ _ := sum_ge2 (fun s => gr l (blkP l t m) l.length 0 s * 2 ^ s) e (l.length + 1) (show t < l.length + 1 by omega) (show s < l.length + 1 by omega)
    rw [gt1, Nat.one_mul] at s2
    have ps := two_pos s
    rcases Nat.eq_zero_or_pos (gr l (blkP l t m) l.length 0 s) with z | z
    · exact z
    · have := Nat.mul_le_mul_right (2 ^ s) z
      omega
theorem filter_one' {n t : Nat} {f : Nat → Nat} (h : t < n) (hf : ∀ s, s < n → f s = if s = t then 1 else 0) : (List.range n).filter (fun s => decide (0 < f s)) = [t] ∧ ((List.range n).map f).sum = 1 := by
  induction n with
  | zero => omega
  | succ n ih =>
    rw [List.range_succ, List.filter_append, List.map_append, List.sum_append, List.map_cons, List.map_nil, List.sum_cons, List.sum_nil]
    rcases Nat.lt_or_ge t n with e | e
    · obtain ⟨i1, i2⟩ := ih e fun s hs => hf s (by omega)
      have hn := hf n (by omega)
      rw [if_neg (by omega)] at hn
      rw [i1, i2, List.filter_cons_of_neg (by rw [hn]; decide), hn]
      exact ⟨rfl, rfl⟩
    · have et : t = n := by omega
      subst et
      have hn := hf t (by omega)
      rw [if_pos rfl] at hn
      have z : ∀ s ∈ List.range t, f s = 0 := fun s hs => by
        have := List.mem_range.mp hs
        rw [hf s (by omega), if_neg (by omega)]
      rw [List.filter_eq_nil_iff.mpr fun s hs => by rw [z s hs]; decide, List.filter_cons_of_pos (by rw [hn]; decide), List.filter_nil, hn, List.map_congr_left z]
      refine ⟨rfl, ?_⟩
      clear ih h hf e hn z
      induction t with
      | zero => rfl
      | succ t ih => rw [List.range_succ, List.map_append, List.sum_append]; simp only [List.map_cons, List.map_nil, List.sum_cons, List.sum_nil]; omega
end Lk

set_option Elab.async false
set_option linter.all false
set_option maxRecDepth 100000
set_option maxHeartbeats 4000000
namespace Lk
open PySem PySem.Spec
/-! ### words that put one cell ahead of another -/
/-- whether the letter x with the digit i is ahead of the letter y with the digit j -/
def firstX : List Bool → Nat → Nat → Bool
  | [], _, _ => false
  | true :: r, i, j => if nx r = i then true else firstX r i j
  | false :: r, i, j => if ny r = j then false else firstX r i j
/-- i is the highest digit at which a and b differ -/
def Parts (a b i : Nat) : Prop := a / 2 ^ (i + 1) = b / 2 ^ (i + 1) ∧ a / 2 ^ i % 2 ≠ b / 2 ^ i % 2
theorem parts_high {a b i k : Nat} (h : Parts a b i) (hk : i < k) : a / 2 ^ k % 2 = b / 2 ^ k % 2 := by
  obtain ⟨d, rfl⟩ : ∃ d, k = i + 1 + d := ⟨k - (i + 1), by omega⟩
  rw [Nat.pow_add, ← Nat.div_div_eq_div_mul, ← Nat.div_div_eq_div_mul, h.1]
theorem parts_lt {a b i : Nat} (h : Parts a b i) : a < b ↔ a / 2 ^ i % 2 < b / 2 ^ i % 2 := by
  obtain ⟨h1, h2⟩ := h
  rw [Nat.pow_succ, ← Nat.div_div_eq_div_mul, ← Nat.div_div_eq_div_mul] at h1
  have e1 := Nat.div_add_mod a (2 ^ i)
  have e2 := Nat.div_add_mod b (2 ^ i)
  have m1 := Nat.mod_lt a (two_pos i)
  have m2 := Nat.mod_lt b (two_pos i)
  generalize a / 2 ^ i = A at h1 h2 e1 ⊢
  generalize b / 2 ^ i = B at h1 h2 e2 ⊢
  constructor
  · intro h
    rcases Nat.lt_or_ge (A % 2) (B % 2) with z | z
    · exact z
    · have : B + 1 ≤ A := by omega
      have := Nat.mul_le_mul_left (2 ^ i) this
      rw [Nat.mul_add, Nat.mul_one] at this
      omega
  · intro h
    have : A + 1 ≤ B := by omega
    have := Nat.mul_le_mul_left (2 ^ i) this
    rw [Nat.mul_add, Nat.mul_one] at this
    omega
theorem digit_lt {d1 d2 k1 k2 N : Nat} (h1 : k1 < N) (h2 : k2 < N) (hd : d1 ≠ d2) : d1 * N + k1 < d2 * N + k2 ↔ d1 < d2 := by
  constructor
  · intro h
    rcases Nat.lt_or_ge d1 d2 with z | z
    · exact z
    · have : d2 + 1 ≤ d1 := by omega
      have := Nat.mul_le_mul_right N this
      rw [Nat.add_mul, Nat.one_mul] at this
      omega
  · intro h
    have : d1 + 1 ≤ d2 := h
    have := Nat.mul_le_mul_right N this
    rw [Nat.add_mul, Nat.one_mul] at this
    omega
theorem ahead_iff {x1 y1 x2 y2 i j : Nat} (hx : Parts x1 x2 i) (hy : Parts y1 y2 j) : ∀ w : List Bool, i < nx w → j < ny w → (keyL w x1 y1 < keyL w x2 y2 ↔ if firstX w i j = true then x1 < x2 else y1 < y2)
  | [], h, _ => absurd h (Nat.not_lt_zero _)
  | true :: r, h, h' => by
    rw [nx_t] at h
    rw [ny_t] at h'
    show x1 / 2 ^ nx r % 2 * 2 ^ r.length + keyL r x1 y1 < x2 / 2 ^ nx r % 2 * 2 ^ r.length + keyL r x2 y2 ↔ if (if nx r = i then true else firstX r i j) = true then _ else _
    by_cases e : nx r = i
    · rw [if_pos e, if_pos rfl, e, digit_lt (keyL_lt _ _ _) (keyL_lt _ _ _) hx.2, parts_lt hx]
    · rw [if_neg e, parts_high hx (show i < nx r by omega), ← ahead_iff hx hy r (by omega) h']
      omega
  | false :: r, h, h' => by
    rw [nx_f] at h
    rw [ny_f] at h'
    show y1 / 2 ^ ny r % 2 * 2 ^ r.length + keyL r x1 y1 < y2 / 2 ^ ny r % 2 * 2 ^ r.length + keyL r x2 y2 ↔ if (if ny r = j then false else firstX r i j) = true then _ else _
    by_cases e : ny r = j
    · rw [if_pos e, if_neg (by decide), e, digit_lt (keyL_lt _ _ _) (keyL_lt _ _ _) hy.2, parts_lt hy]
    · rw [if_neg e, parts_high hy (show j < ny r by omega), ← ahead_iff hx hy r h (by omega)]
      omega
/-- all words of so many letters, as the law makes them -/
def stepW (n m : Nat) (ws : List (List Bool)) : List (List Bool) := (ws.filter fun w => decide (nx w < n)).map (fun w => w ++ [true]) ++ (ws.filter fun w => decide (ny w < m)).map (fun w => w ++ [false])
def wordsT (n m : Nat) : Nat → List (List Bool)
  | 0 => [[]]
  | t + 1 => stepW n m (wordsT n m t)
def formX (n m p q : Nat) : Int := ((List.range (q + 1)).map fun k : Nat => W.mcComb ((p : Int) + k) k * W.mcComb ((n : Int) - 1 - p + m - k) ((m : Int) - k)).sum
theorem words_small : ∀ n, n < 5 → ∀ m, m < 5 → (∀ w ∈ wordsT n m (n + m), nx w = n ∧ ny w = m) ∧ W.mcComb ((n : Int) + m) n = (((wordsT n m (n + m)).length : Nat) : Int) ∧ (wordsT n m (n + m)).length ≤ 100 := by decide +kernel
theorem words_len : ∀ n, n < 5 → ∀ m, m < 5 → ∀ t, t < n + m → (wordsT n m t).length ≤ 300 ∧ ∀ w ∈ wordsT n m t, w.length ≤ 8 := by decide +kernel
theorem first_small : ∀ n, n < 5 → ∀ m, m < 5 → ∀ p, p < n → ∀ q, q < m → (((wordsT n m (n + m)).countP fun w => firstX w (n - 1 - p) (m - 1 - q) : Nat) : Int) = formX n m p q := by decide +kernel
theorem comb_small : ∀ a, a < 10 → ∀ b, b < 10 → 0 ≤ W.mcComb (a : Nat) (b : Nat) ∧ W.mcComb (a : Nat) (b : Nat) < 1000 := by decide +kernel
theorem xor_small : ∀ a, a < 16 → ∀ b, b < 16 → a ≠ b → 1 ≤ Builtin.Int.intBits (Builtin.bitXor (a : Nat) (b : Nat)) ∧ a / 2 ^ (Builtin.Int.intBits (Builtin.bitXor (a : Nat) (b : Nat)) - 1 + 1) = b / 2 ^ (Builtin.Int.intBits (Builtin.bitXor (a : Nat) (b : Nat)) - 1 + 1) ∧ a / 2 ^ (Builtin.Int.intBits (Builtin.bitXor (a : Nat) (b : Nat)) - 1) % 2 ≠ b / 2 ^ (Builtin.Int.intBits (Builtin.bitXor (a : Nat) (b : Nat)) - 1) % 2 := by decide +kernel
def aheadN (n m x1 y1 x2 y2 : Nat) : Nat := (wordsT n m (n + m)).countP fun w => decide (keyL w x1 y1 < keyL w x2 y2)
section
variable {n m x1 y1 x2 y2 : Nat} (hn : n < 5) (hm : m < 5) (h1 : x1 < 2 ^ n) (h2 : y1 < 2 ^ m) (h3 : x2 < 2 ^ n) (h4 : y2 < 2 ^ m)
include hn hm h1 h2 h3 h4
theorem ahead_none (hx : x2 ≤ x1) (hy : y2 ≤ y1) : aheadN n m x1 y1 x2 y2 = 0 := by
  refine List.countP_eq_zero.mpr fun w hw => ?_
  obtain ⟨e1, e2⟩ := (words_small n hn m hm).1 w hw
  have := key_mono w hx hy (by rw [e1]; exact h1) (by rw [e2]; exact h2)
  rw [decide_eq_false (by omega)]
  decide
theorem ahead_all (hx : x1 ≤ x2) (hy : y1 ≤ y2) (hne : ¬ (x2 ≤ x1 ∧ y2 ≤ y1)) : ((aheadN n m x1 y1 x2 y2 : Nat) : Int) = W.mcComb ((n : Int) + m) n := by
  rw [(words_small n hn m hm).2.1]
  congr 1
  refine List.countP_eq_length.mpr fun w hw => ?_
  obtain ⟨e1, e2⟩ := (words_small n hn m hm).1 w hw
  have k := key_mono w hx hy (by rw [e1]; exact h3) (by rw [e2]; exact h4)
  refine decide_eq_true ?_
  rcases Nat.eq_or_lt_of_le k with e | e
  · have := key_inj (l := w) (by rw [e1]; exact h1) (by rw [e2]; exact h2) (by rw [e1]; exact h3) (by rw [e2]; exact h4) e
    omega
  · exact e
theorem part_lt {a b k i : Nat} (ha : a < 2 ^ k) (hb : b < 2 ^ k) (h : Parts a b i) : i < k := by
  rcases Nat.lt_or_ge i k with e | e
  · exact e
  · have p := Nat.pow_le_pow_right (n := 2) (by decide) e
    have := h.2
    rw [Nat.div_eq_of_lt (by omega), Nat.div_eq_of_lt (by omega)] at this
    exact absurd rfl this
theorem ahead_x {i j : Nat} (hi : Parts x1 x2 i) (hj : Parts y1 y2 j) (hx : x1 < x2) (hy : y2 < y1) : ((aheadN n m x1 y1 x2 y2 : Nat) : Int) = formX n m (n - 1 - i) (m - 1 - j) := by
  have li := part_lt hn hm h1 h2 h3 h4 h1 h3 hi
  have lj := part_lt hn hm h1 h2 h3 h4 h2 h4 hj
  rw [← first_small n hn m hm (n - 1 - i) (by omega) (m - 1 - j) (by omega), show n - 1 - (n - 1 - i) = i by omega, show m - 1 - (m - 1 - j) = j by omega]
  congr 1
  refine List.countP_congr fun w hw => ?_
  obtain ⟨e1, e2⟩ := (words_small n hn m hm).1 w hw
  rw [decide_eq_true_iff, ahead_iff hi hj w (by omega) (by omega)]
  cases firstX w i j
  · rw [if_neg (by decide)]
    exact ⟨fun z => by omega, fun z => by cases z⟩
  · rw [if_pos rfl]
    exact ⟨fun _ => rfl, fun _ => hx⟩
theorem ahead_y {i j : Nat} (hi : Parts x1 x2 i) (hj : Parts y1 y2 j) (hx : x2 < x1) (hy : y1 < y2) : ((aheadN n m x1 y1 x2 y2 : Nat) : Int) = W.mcComb ((n : Int) + m) n - formX n m (n - 1 - i) (m - 1 - j) := by
  have li := part_lt hn hm h1 h2 h3 h4 h1 h3 hi
  have lj := part_lt hn hm h1 h2 h3 h4 h2 h4 hj
  rw [(words_small n hn m hm).2.1, ← first_small n hn m hm (n - 1 - i) (by omega) (m - 1 - j) (by omega), show n - 1 - (n - 1 - i) = i by omega, show m - 1 - (m - 1 - j) = j by omega]
  have sp := countP_split (fun _ : List Bool => true) (fun w => firstX w i j) (wordsT n m (n + m))
  simp only [Bool.true_and] at sp
  have ct : (wordsT n m (n + m)).countP (fun _ => true) = (wordsT n m (n + m)).length := List.countP_eq_length.mpr fun _ _ => rfl
  rw [ct] at sp
  have e : aheadN n m x1 y1 x2 y2 = (wordsT n m (n + m)).countP fun w => !firstX w i j := by
    refine List.countP_congr fun w hw => ?_
    obtain ⟨e1, e2⟩ := (words_small n hn m hm).1 w hw
    rw [decide_eq_true_iff, ahead_iff hi hj w (by omega) (by omega)]
    cases firstX w i j
    · rw [if_neg (by decide)]
      exact ⟨fun _ => rfl, fun _ => hy⟩
    · rw [if_pos rfl]
      exact ⟨fun z => by omega, fun z => by cases z⟩
  omega
end
theorem p16 {a k : Nat} (h : a < 2 ^ k) (hk : k < 5) : a < 16 := Nat.lt_of_lt_of_le h (by have := Nat.pow_le_pow_right (n := 2) (by decide) (show k ≤ 4 by omega); omega)
theorem xor_parts {a b k : Nat} (ha : a < 2 ^ k) (hb : b < 2 ^ k) (hk : k < 5) (hne : a ≠ b) : ∃ i, i < k ∧ Parts a b i ∧ ((k : Int) - ((Builtin.Int.intBits (Builtin.bitXor (a : Nat) (b : Nat)) : Nat) : Int) = ((k - 1 - i : Nat) : Int)) := by
  obtain ⟨q1, q2, q3⟩ := xor_small a (p16 ha hk) b (p16 hb hk) hne
  generalize Builtin.Int.intBits (Builtin.bitXor (a : Nat) (b : Nat)) = B at q1 q2 q3 ⊢
  have hp : Parts a b (B - 1) := ⟨q2, q3⟩
  have li : B - 1 < k := by
    rcases Nat.lt_or_ge (B - 1) k with e | e
    · exact e
    · have p := Nat.pow_le_pow_right (n := 2) (by decide) e
      have := hp.2
      rw [Nat.div_eq_of_lt (by omega), Nat.div_eq_of_lt (by omega)] at this
      exact absurd rfl this
  exact ⟨B - 1, li, hp, by omega⟩
end Lk

set_option Elab.async false
set_option linter.all false
set_option maxRecDepth 100000
set_option maxHeartbeats 4000000
namespace Mi
open PySem PySem.Spec PyProof.Rows L2
/-! ### several stores at once -/
section
variable {Γ : Ga} {S : Sx} {cs cs' ts : List Nat} {W : WX} {m : Md} {σ : L2.St} {H G H1 G1 H0 : Hp} {ρ ρ1 : Env} {f : E} {g : EA} {X : Cx} {e : Expr} {es : List Expr} {ks : List Kd} {a : Addr} {vs : List V} {ds : List D} {fx : List Nat}
theorem Rep.setOwn' (rep : Rep Γ cs σ H1 G1 ρ1) {i : Nat} {o : HO} {d : D} (nT : ∀ j : Nat, j ∈ cs → σ[j]? ≠ some (some (.ref a))) (e1 : H1 a = some o) (n1 : G1 a = none) (ow : OwnO Γ G1 o d) : Rep Γ (i :: cs) (σ.set i (some (.ref a))) H1 G1 (ρ1.set i (some d)) := by
  have hl := rep.len
  have inC : ∀ {j : Nat}, j ∈ i :: cs → i ≠ j → j ∈ cs := fun {j} h n => (List.mem_cons.mp h).elim (fun z => absurd z.symm n) id
  refine ⟨by rw [List.length_set, List.length_set]; exact hl, rep.sub, fun j q => ?_, fun j d' hj q => ?_, fun j d' hj q => ?_, fun j k b hj hk q1 q2 => ?_⟩
  · by_cases e : i = j
    · subst e
      by_cases hlt : i < ρ1.length
      · rw [List.getElem?_set_self hlt] at q; cases q
      · rw [List.getElem?_eq_none (by rw [List.length_set]; omega)] at q; cases q
    · rw [List.getElem?_set_ne e] at q ⊢
      exact rep.un j q
  · have e : i ≠ j := fun z => hj (by rw [z]; exact List.mem_cons_self)
    rw [List.getElem?_set_ne e] at q ⊢
    exact rep.dat j d' (fun z => hj (List.mem_cons_of_mem _ z)) q
  · by_cases e : i = j
    · subst e
      have hlt : i < ρ1.length := by have := (List.getElem?_eq_some_iff.mp q).1; rw [List.length_set] at this; exact this
      rw [List.getElem?_set_self hlt] at q
      cases q
      exact ⟨a, o, List.getElem?_set_self (by omega), e1, n1, ow⟩
    · rw [List.getElem?_set_ne e] at q ⊢
      exact rep.own j d' (inC hj e) q
  · by_cases e : i = j
    · subst e
      by_cases e2 : i = k
      · exact e2
      · have hlt : i < σ.length := by have := (List.getElem?_eq_some_iff.mp q1).1; rw [List.length_set] at this; exact this
        rw [List.getElem?_set_self hlt] at q1
        rw [List.getElem?_set_ne e2] at q2
        cases q1
        exact absurd q2 (nT k (inC hk e2))
    · rw [List.getElem?_set_ne e] at q1
      by_cases e2 : i = k
      · subst e2
        have hlt : i < σ.length := by have := (List.getElem?_eq_some_iff.mp q2).1; rw [List.length_set] at this; exact this
        rw [List.getElem?_set_self hlt] at q2
        cases q2
        exact absurd q1 (nT j (inC hj e))
      · rw [List.getElem?_set_ne e2] at q2
        exact rep.sep j k b (inC hj e) (inC hk e2) q1 q2
theorem Rep.cong (rep : Rep Γ cs σ H G ρ) (h1 : ∀ j ∈ cs', j ∈ cs) (h2 : ∀ j ∈ cs, j ∈ cs') : Rep Γ cs' σ H G ρ :=
  ⟨rep.len, rep.sub, rep.un, fun i d hi h => rep.dat i d (fun z => hi (h2 i z)) h, fun i d hi h => rep.own i d (h1 i hi) h, fun i j a hi hj => rep.sep i j a (h1 i hi) (h1 j hj)⟩
def stV : List Nat → List V → L2.St → L2.St
  | i :: is, v :: vs, σ => stV is vs (σ.set i (some v))
  | _, _, σ => σ
def stD : List Nat → List D → Env → Env
  | i :: is, d :: ds, ρ => stD is ds (ρ.set i (some d))
  | _, _, ρ => ρ
def csAft : List Nat → List Kd → List Nat → List Nat
  | i :: is, .own :: ks, cs => csAft is ks (i :: cs)
  | _ :: is, _ :: ks, cs => csAft is ks cs
  | _, _, cs => cs
/-- what may be stored: a cell's slot is no plain one's, none is an argument's -/
def stOk (fx : List Nat) : List Nat → List Kd → List Nat → Bool
  | i :: is, .own :: ks, cs => decide (i ∉ fx) && stOk fx is ks (i :: cs)
  | i :: is, .full :: ks, cs => decide (i ∉ fx) && (decide (i ∉ cs) && stOk fx is ks cs)
  | [], [], _ => true
  | _, _, _ => false
theorem stores : ∀ {is : List Nat} {ks : List Kd} {vs : List V} {ds : List D} {cs : List Nat} {σ : L2.St} {ρ : Env}, stOk fx is ks cs = true → Rep Γ cs σ H1 G1 ρ → RKs Γ σ H H1 G1 ks vs ds → (∀ v ∈ ownVs ks vs, ∀ j : Nat, j ∈ cs → σ[j]? ≠ some (some v)) →
    Rep Γ (csAft is ks cs) (stV is vs σ) H1 G1 (stD is ds ρ) ∧ (∀ b, T (csAft is ks cs) (stV is vs σ) b → T cs σ b ∨ H b = none) ∧ ∀ i ∈ fx, (stV is vs σ)[i]? = σ[i]?
  | [], [], [], [], cs, σ, ρ, _, rep, _, _ => ⟨rep, fun _ h => .inl h, fun _ _ => rfl⟩
  | [], [], _ :: _, [], _, _, _, _, _, r, _ => r.elim
  | [], [], [], _ :: _, _, _, _, _, _, r, _ => r.elim
  | [], [], _ :: _, _ :: _, _, _, _, _, _, r, _ => r.elim
  | [], k :: ks, _, _, _, _, _, h, _, _, _ => by cases k <;> cases h
  | i :: is, [], _, _, _, _, _, h, _, _, _ => by cases h
  | i :: is, k :: ks, [], _, _, _, _, _, _, r, _ => r.elim
  | i :: is, k :: ks, _ :: _, [], _, _, _, _, _, r, _ => r.elim
  | i :: is, .root :: ks, _ :: _, _ :: _, _, _, _, h, _, _, _ => by cases h
  | i :: is, .cel j :: ks, _ :: _, _ :: _, _, _, _, h, _, _, _ => by cases h
  | i :: is, .full :: ks, v :: vs, d :: ds, cs, σ, ρ, h, rep, r, hn => by
    unfold stOk at h
    rw [Bool.and_eq_true, Bool.and_eq_true] at h
    obtain ⟨h1, h2, h3⟩ := h
    have hf : i ∉ fx := of_decide_eq_true h1
    have hc : i ∉ cs := of_decide_eq_true h2
    have r' : RKs Γ (σ.set i (some v)) H H1 G1 ks vs ds := by
      have gen : ∀ {ks : List Kd} {vs : List V} {ds : List D} {cs : List Nat} {is : List Nat}, stOk fx is ks cs = true → RKs Γ σ H H1 G1 ks vs ds → RKs Γ (σ.set i (some v)) H H1 G1 ks vs ds := by
        intro ks
        induction ks with
        | nil => intro vs ds cs is _ r; cases vs <;> cases ds <;> exact r
        | cons k ks ih =>
          intro vs ds cs is h r
          cases vs with
          | nil => exact r.elim
          | cons v vs =>
            cases ds with
            | nil => exact r.elim
            | cons d ds =>
              cases is with
              | nil => cases k <;> cases h
              | cons j is =>
                cases k with
                | full =>
                  unfold stOk at h
                  rw [Bool.and_eq_true, Bool.and_eq_true] at h
                  exact ⟨r.1, r.2.1, ih h.2.2 r.2.2⟩
                | own =>
                  unfold stOk at h
                  rw [Bool.and_eq_true] at h
                  exact ⟨r.1, r.2.1, ih h.2 r.2.2⟩
                | root => cases h
                | cel j => cases h
      exact gen h3 r.2.2
    obtain ⟨q1, q2, q3⟩ := stores (is := is) h3 (rep.set hc r.1) r' (fun u hu j hj => by rw [List.getElem?_set_ne (ne_mem hc hj)]; exact hn u hu j hj)
    exact ⟨q1, fun b hb => (q2 b hb).imp (fun z => (T.set hc).mp z) id, fun j hj => (q3 j hj).trans (List.getElem?_set_ne (ne_mem hf hj))⟩
  | i :: is, .own :: ks, v :: vs, d :: ds, cs, σ, ρ, h, rep, r, hn => by
    unfold stOk at h
    rw [Bool.and_eq_true] at h
    obtain ⟨h1, h3⟩ := h
    have hf : i ∉ fx := of_decide_eq_true h1
    have r' : RKs Γ (σ.set i (some v)) H H1 G1 ks vs ds := by
      have gen : ∀ {ks : List Kd} {vs : List V} {ds : List D} {cs : List Nat} {is : List Nat}, stOk fx is ks cs = true → RKs Γ σ H H1 G1 ks vs ds → RKs Γ (σ.set i (some v)) H H1 G1 ks vs ds := by
        intro ks
        induction ks with
        | nil => intro vs ds cs is _ r; cases vs <;> cases ds <;> exact r
        | cons k ks ih =>
          intro vs ds cs is h r
          cases vs with
          | nil => exact r.elim
          | cons v vs =>
            cases ds with
            | nil => exact r.elim
            | cons d ds =>
              cases is with
              | nil => cases k <;> cases h
              | cons j is =>
                cases k with
                | full =>
                  unfold stOk at h
                  rw [Bool.and_eq_true, Bool.and_eq_true] at h
                  exact ⟨r.1, r.2.1, ih h.2.2 r.2.2⟩
                | own =>
                  unfold stOk at h
                  rw [Bool.and_eq_true] at h
                  exact ⟨r.1, r.2.1, ih h.2 r.2.2⟩
                | root => cases h
                | cel j => cases h
      exact gen h3 r.2.2
    obtain ⟨a, o, rfl, n0, e1, n1, ow⟩ := r.1
    have nT : ∀ j : Nat, j ∈ cs → σ[j]? ≠ some (some (.ref a)) := fun j hj => hn (.ref a) (by unfold ownVs; exact List.mem_cons_self) j hj
    have nv : ∀ u ∈ ownVs ks vs, u ≠ .ref a := fun u hu z => r.2.1 rfl (by rw [← z]; exact hu)
    obtain ⟨q1, q2, q3⟩ := stores (is := is) h3 (rep.setOwn' (i := i) nT e1 n1 ow) r' (fun u hu j hj => by
      by_cases e : i = j
      · subst e
        by_cases hl : i < σ.length
        · rw [List.getElem?_set_self hl]
          intro z
          exact nv u hu (Option.some.inj (Option.some.inj z)).symm
        · rw [List.getElem?_eq_none (by rw [List.length_set]; omega)]
          intro z
          cases z
      · rw [List.getElem?_set_ne e]
        exact hn u (by unfold ownVs; exact List.mem_cons_of_mem _ hu) j ((List.mem_cons.mp hj).elim (fun z => absurd z.symm e) id))
    refine ⟨q1, fun b hb => ?_, fun j hj => (q3 j hj).trans (List.getElem?_set_ne (ne_mem hf hj))⟩
    rcases q2 b hb with ⟨j, hj, z⟩ | z
    · by_cases e : i = j
      · subst e
        by_cases hl : i < σ.length
        · rw [List.getElem?_set_self hl] at z
          cases z
          exact .inr n0
        · rw [List.getElem?_eq_none (by rw [List.length_set]; omega)] at z
          cases z
      · rw [List.getElem?_set_ne e] at z
        exact .inl ⟨j, (List.mem_cons.mp hj).elim (fun z => absurd z.symm e) id, z⟩
    · exact .inr z
def saBind (r : Option RA) (k : List D → Env → Option Out) : Option Out := match r with
  | none => none
  | some (.ok d ρ) => k d ρ
  | some (.ex x ρ) => some (.ex x ρ)
@[simp] theorem saBind_ok {d : List D} {ρ : Env} {k : List D → Env → Option Out} : saBind (some (.ok d ρ)) k = k d ρ := rfl
@[simp] theorem saBind_ex {d : D} {ρ : Env} {k : List D → Env → Option Out} : saBind (some (.ex d ρ)) k = some (.ex d ρ) := rfl
@[simp] theorem saBind_none {k : List D → Env → Option Out} : saBind none k = none := rfl
def sPar (is : List Nat) (g : EA) : SM := fun ρ => saBind (g ρ) fun ds ρ1 => some (.nx (stD is ds ρ1))
theorem par_core {is : List Nat} {D0 : Ends} {Q1 : List V → Hp → Prop} (hok : stOk S.fx is ks cs = true) (h1 : ∀ j ∈ cs', j ∈ csAft is ks cs) (h2 : ∀ j ∈ csAft is ks cs, j ∈ cs') (hx : ∀ i ∈ S.xc, i ∈ cs) (rep : Rep Γ cs σ H G ρ)
    (fin : FinS Γ S cs cs' D0 σ H G (sPar is g ρ)) (hq : ∀ vs H1, D0.nx (stV is vs σ) H1 → vs.length = ks.length → Q1 vs H1) : FinA Γ cs cs S.W ks σ H G Q1 (g ρ) := by
  unfold sPar at fin
  generalize g ρ = r at fin ⊢
  rcases r with _ | ⟨ds, ρ1⟩ | ⟨x, ρ1⟩
  · exact fin
  · intro vs H1 G1 rep1 st1 rk
    obtain ⟨q1, q2, q3⟩ := stores (fx := S.fx) (H := H) hok rep1 rk fun v hv j hj z => by
      obtain ⟨a, e1, e2⟩ := rk.own hv
      rw [e1] at z
      exact (rep.tc ⟨j, hj, z⟩).1 e2
    exact hq vs H1 ((show FinS Γ S cs cs' D0 σ H G (some (.nx (stD is ds ρ1))) from fin) _ H1 G1 (q1.cong h1 h2) ⟨st1, fun b ⟨j, hj, z⟩ => q2 b ⟨j, h1 j hj, z⟩, q3⟩) rk.len
  · intro c dx H' G' rep' st e
    obtain ⟨G2, rep2, s2, st2⟩ := rep'.frz (fx := S.fx) hx
    exact (show FinS Γ S cs cs' D0 σ H G (some (.ex x ρ1)) from fin) c dx σ H' G2 rep2 ((StS.of st).trans st2) (e.same s2)
theorem ms_par2 {i j : Nat} {st : Stmt} (h : ∀ ta, PA X es ta → PS X st (tPar i j ta)) (ha : PA X es (tA Γ cs cs S.W ks g)) (hl : ks.length = 2 := by rfl) (hok : stOk S.fx [i, j] ks cs = true := by first | decide | (dsimp only [fxOf]; decide)) (h1 : ∀ k ∈ cs', k ∈ csAft [i, j] ks cs := by first | decide | (dsimp only [fxOf]; decide)) (h2 : ∀ k ∈ csAft [i, j] ks cs, k ∈ cs' := by first | decide | (dsimp only [fxOf]; decide))
    (hx : ∀ i ∈ S.xc, i ∈ cs := by first | decide | (dsimp only [fxOf]; decide)) : PS X st (tS Γ S cs cs' (sPar [i, j] g)) :=
  PS.imp (h _ ha) fun D0 σ H ⟨G, ρ, rep, fin⟩ => ⟨G, ρ, rep, par_core hok h1 h2 hx rep fin fun vs H1 q hv => by
    rw [hl] at hv
    match vs, hv, q with
    | [v, w], _, q => exact ⟨v, w, rfl, q⟩⟩
theorem ms_par3 {i j l : Nat} {st : Stmt} (h : ∀ ta, PA X es ta → PS X st (tPar3 i j l ta)) (ha : PA X es (tA Γ cs cs S.W ks g)) (hl : ks.length = 3 := by rfl) (hok : stOk S.fx [i, j, l] ks cs = true := by first | decide | (dsimp only [fxOf]; decide)) (h1 : ∀ k ∈ cs', k ∈ csAft [i, j, l] ks cs := by first | decide | (dsimp only [fxOf]; decide)) (h2 : ∀ k ∈ csAft [i, j, l] ks cs, k ∈ cs' := by first | decide | (dsimp only [fxOf]; decide))
    (hx : ∀ i ∈ S.xc, i ∈ cs := by first | decide | (dsimp only [fxOf]; decide)) : PS X st (tS Γ S cs cs' (sPar [i, j, l] g)) :=
  PS.imp (h _ ha) fun D0 σ H ⟨G, ρ, rep, fin⟩ => ⟨G, ρ, rep, par_core hok h1 h2 hx rep fin fun vs H1 q hv => by
    rw [hl] at hv
    match vs, hv, q with
    | [u, v, w], _, q => exact ⟨u, v, w, rfl, q⟩⟩
/-- a, b, .. = a tuple that is made -/
def gNames : List Nat → TGs
  | [] => gNil
  | i :: is => gCons (gName i) (gNames is)
theorem gNames_run : ∀ {is : List Nat} {vs : List V} {σ : L2.St} {H : Hp} {Q : L2.St → Hp → Prop}, vs.length = is.length → Q (stV is vs σ) H → gNames is vs σ H Q
  | [], [], _, _, _, _, q => ⟨rfl, q⟩
  | [], _ :: _, _, _, _, h, _ => by cases h
  | _ :: _, [], _, _, _, h, _ => by cases h
  | i :: is, v :: vs, σ, H, Q, h, q => ⟨v, vs, rfl, gNames_run (is := is) (by simpa using h) q⟩
theorem ms_parT {is : List Nat} {st : Stmt} {n : Nat} {K : PySem.W.Frag} (h : ∀ ta, PA X es ta → PS X st (tAsg (tTup ta) (gTup K n (gNames is)))) (ha : PA X es (tA Γ cs cs S.W ks g)) (hl : ks.length = n := by rfl) (hi : is.length = n := by rfl) (hz : n ≤ 1000 := by first | decide | (dsimp only [fxOf]; decide)) (hok : stOk S.fx is ks cs = true := by first | decide | (dsimp only [fxOf]; decide))
    (h1 : ∀ k ∈ cs', k ∈ csAft is ks cs := by first | decide | (dsimp only [fxOf]; decide)) (h2 : ∀ k ∈ csAft is ks cs, k ∈ cs' := by first | decide | (dsimp only [fxOf]; decide)) (hx : ∀ i ∈ S.xc, i ∈ cs := by first | decide | (dsimp only [fxOf]; decide)) : PS X st (tS Γ S cs cs' (sPar is g)) :=
  PS.imp (h _ ha) fun D0 σ H ⟨G, ρ, rep, fin⟩ => ⟨G, ρ, rep, by
    unfold sPar at fin
    generalize g ρ = r at fin ⊢
    rcases r with _ | ⟨ds, ρ1⟩ | ⟨x, ρ1⟩
    · exact fin
    · intro vs H1 G1 rep1 st1 rk
      have lv : vs.length = n := rk.len.trans hl
      refine ⟨small_len (by omega), fun p np => ⟨p, vs, rfl, .inl (.inl upd_same), lv, gNames_run (by rw [lv, hi]) ?_⟩⟩
      have ex : Ext H1 G1 (upd H1 p (.tup vs)) G1 := Ext.newOwn rep1.sub np
      have rep2 := rep1.ext ex
      have rk2 : RKs Γ σ H (upd H1 p (.tup vs)) G1 ks vs ds := by
        have gen : ∀ {ks : List Kd} {vs : List V} {ds : List D} {is : List Nat} {cs : List Nat}, stOk S.fx is ks cs = true → RKs Γ σ H H1 G1 ks vs ds → ∀ {p : Addr} {o : HO}, H1 p = none → RKs Γ σ H (upd H1 p o) G1 ks vs ds := by
          intro ks
          induction ks with
          | nil => intro vs ds is cs _ r p o _; cases vs <;> cases ds <;> exact r
          | cons k ks ih =>
            intro vs ds is cs h r p o np
            cases vs with
            | nil => exact r.elim
            | cons v vs =>
              cases ds with
              | nil => exact r.elim
              | cons d ds =>
                cases is with
                | nil => cases k <;> cases h
                | cons j is =>
                  cases k with
                  | full =>
                    unfold stOk at h
                    rw [Bool.and_eq_true, Bool.and_eq_true] at h
                    exact ⟨r.1, r.2.1, ih h.2.2 r.2.2 np⟩
                  | own =>
                    unfold stOk at h
                    rw [Bool.and_eq_true] at h
                    obtain ⟨a, u, q1, q2, q3, q4, q5⟩ := r.1
                    exact ⟨⟨a, u, q1, q2, by rw [upd_ne (ne_of_none q3 np)]; exact q3, q4, q5⟩, r.2.1, ih h.2 r.2.2 np⟩
                  | root => cases h
                  | cel j => cases h
        exact gen hok rk np
      obtain ⟨q1, q2, q3⟩ := stores (fx := S.fx) (H := H) hok rep2 rk2 fun v hv j hj z => by
        obtain ⟨a, e1, e2⟩ := rk.own hv
        rw [e1] at z
        exact (rep.tc ⟨j, hj, z⟩).1 e2
      exact (show FinS Γ S cs cs' D0 σ H G (some (.nx (stD is ds ρ1))) from fin) _ _ G1 (q1.cong h1 h2) ⟨st1.tr ex.any, fun b ⟨j, hj, z⟩ => q2 b ⟨j, h1 j hj, z⟩, q3⟩
    · intro c dx H' G' rep' st e
      obtain ⟨G2, rep2, s2, st2⟩ := rep'.frz (fx := S.fx) hx
      exact (show FinS Γ S cs cs' D0 σ H G (some (.ex x ρ1)) from fin) c dx σ H' G2 rep2 ((StS.of st).trans st2) (e.same s2)⟩
/-! ### cells changed -/
/-- x.m(e) that changes the list at the cell x alone: what it gives, the list behind it -/
def eMut (i : Nat) (op : List D → List D → Option (D × List D)) (g : EA) : E := fun ρ => match ρ[i]? with
  | some (some (.lst _)) => aBind (g ρ) fun ds ρ1 => (match ρ1[i]? with
    | some (some (.lst l)) => (match op l ds with
      | some (z, l') => some (.ok z (ρ1.set i (some (.lst l'))))
      | none => none)
    | _ => none)
  | _ => none
def appendD : List D → List D → Option (D × List D)
  | ds, [d] => if ds.length < 1000000 then some (.non, ds ++ [d]) else none
  | _, _ => none
def extendD : List D → List D → Option (D × List D)
  | ds, [.lst es] => if ds.length + es.length < 1000000 then some (.non, ds ++ es) else none
  | _, _ => none
theorem M1000000 {n : Nat} (h : n < 1000000) : n < sizeLine := Nat.lt_of_lt_of_le h (by decide)
def SoM (Γ : Ga) (r : V → List V → Hp → VK → Prop) (op : List D → List D → Option (D × List D)) : Prop := ∀ (H G : Hp) (a : Addr) (vs xs : List V) (l l' ds : List D) (z : D) (Q : VK), Same G H → H a = some (.lst vs) → Dts Γ G vs l → Dts Γ G xs ds → op l ds = some (z, l') →
  (∀ v vs', Dts Γ G vs' l' → Dt Γ G v z → Q v (upd H a (.lst vs'))) → r (.ref a) xs H Q
theorem so_append : SoM Γ rAppend appendD := fun H G a vs xs l l' ds z Q s ha r rv e q => by
  unfold appendD at e
  split at e
  · split at e
    · rename_i hc
      cases e
      cases rv with
      | cons h hr =>
        cases hr
        exact ⟨a, vs, _, rfl, rfl, ha, by rw [r.len]; exact M1000000 hc, q .non _ (r.app (.cons h .nil)) .non⟩
    · cases e
  · cases e
theorem so_extend : SoM Γ rExtend extendD := fun H G a vs xs l l' ds z Q s ha r rv e q => by
  unfold extendD at e
  split at e
  · split at e
    · rename_i hc
      cases e
      cases rv with
      | cons h hr =>
        cases hr
        cases h with
        | lst h2 r2 => exact ⟨a, _, vs, _, rfl, rfl, ha, s _ _ h2, by rw [r.len, r2.len]; exact Nat.le_of_lt (M1000000 hc), q .non _ (r.app r2) .non⟩
    · cases e
  · cases e
/-- the cell's list is another one from here on -/
theorem Rep.updL (rep : Rep Γ cs σ H G ρ) {i : Nat} (hi : i ∈ cs) {a : Addr} {vs : List V} {d : D} {l : List D} (hs : σ[i]? = some (some (.ref a))) (hr : ρ[i]? = some (some d)) (r : Dts Γ G vs l) : Rep Γ cs σ (L2.upd H a (.lst vs)) G (ρ.set i (some (.lst l))) := rep.upd hi hs hr (.lst r)
theorem me_mut {i : Nat} {o : Expr} {nm : Str} {r : V → List V → Hp → VK → Prop} {op : List D → List D → Option (D × List D)} {apos cpos : Pos} (so : SoM Γ r op)
    (ha : PA X (e :: es) (tA Γ cs ts W ks g))
    (h : PA X (e :: es) (tA Γ cs ts W ks g) → PE X (.Call (.Attribute o nm apos) (e :: es) [] cpos) (tBM X.K "list" r (tVar i) (tA Γ cs ts W ks g)))
    (hk : ∀ k ∈ ks, k = .full := by decide) (hi : i ∈ cs := by decide) (hit : i ∈ ts := by decide) (hts : ∀ i ∈ ts, i ∈ cs := by first | exact nil_sub | exact all_sub) : PE X (.Call (.Attribute o nm apos) (e :: es) [] cpos) (tE Γ cs ts W .full (eMut i op g)) :=
  PE.imp (h ha) fun σ H Q ⟨G, ρ, rep, fin⟩ => by
    unfold eMut at fin
    split at fin
    · rename_i l0 hq
      obtain ⟨a, o', h1, h2, h3, h4⟩ := rep.own i _ hi hq
      cases h4 with
      | lst r0 =>
        refine ⟨.ref a, h1, .inl ⟨rfl, _, SqL.of h2⟩, G, ρ, rep, finA_bind fin fun vs ds ρ1 H1 G1 rep1 st1 rk fin1 => ?_⟩
        split at fin1
        · rename_i l hq1
          split at fin1
          · rename_i z l' hop
            obtain ⟨a1, o1, w1, w2, w3, w4⟩ := rep1.own i _ hi hq1
            rw [h1] at w1
            cases w1
            cases w4 with
            | lst r1 =>
              exact so H1 G1 a _ vs l l' ds z Q rep1.sub w2 r1 (rk.fulls hk) hop fun v vs' dts dz => fin1 v _ G1 (rep1.updL hi h1 hq1 dts) (st1.tr (Stp.upd hit h1)) dz
          · exact fin1.elim
        · exact fin1.elim
    · exact fin.elim
/-- x[k] = e, x a cell's list -/
def sSub (i : Nat) (f k : E) : SM := fun ρ => sBind (f ρ) fun d ρ1 => match ρ1[i]? with
  | some (some (.lst _)) => sBind (k ρ1) fun kd ρ2 => (match ρ2[i]?, kd with
    | some (some (.lst l)), .int n => (match ixN l.length n with
      | some j => some (.nx (ρ2.set i (some (.lst (l.set j d)))))
      | none => none)
    | _, _ => none)
  | _ => none
theorem ms_sub {i : Nat} {o k : Expr} {fk : E} {pos tpos : Pos} (ho : PE X o (tVar i)) (hk : PE X k (tE Γ cs cs S.W .full fk)) (he : PE X e (tE Γ cs cs S.W .full f))
    (h : PE X e (tE Γ cs cs S.W .full f) → PE X k (tE Γ cs cs S.W .full fk) → PS X (.Assign [.Subscript o k tpos] e pos) (tAsg (tE Γ cs cs S.W .full f) (gSub (tVar i) (tE Γ cs cs S.W .full fk) rSetL))) (hi : i ∈ cs := by first | decide | (dsimp only [fxOf]; decide)) (hx : ∀ i ∈ S.xc, i ∈ cs := by first | decide | (dsimp only [fxOf]; decide)) : PS X (.Assign [.Subscript o k tpos] e pos) (tS Γ S cs cs (sSub i f fk)) :=
  PS.imp (h he hk) fun D0 σ H ⟨G, ρ, rep, fin⟩ => ⟨G, ρ, rep, finS_bind hx fin fun v d ρ1 H1 G1 rep1 st1 rm fin1 => by
    split at fin1
    · rename_i l0 hq
      obtain ⟨a, o', h1, h2, h3, h4⟩ := rep1.own i _ hi hq
      refine ⟨.ref a, h1, G1, ρ1, rep1, finS_bind (D0 := D0) (cs' := cs) hx (fin1.step (.of st1)) fun u kd ρ2 H2 G2 rep2 st2 rm2 fin2 => ?_⟩
      split at fin2
      · rename_i l n hq2
        split at fin2
        · rename_i j hj
          obtain ⟨a1, o1, w1, w2, w3, w4⟩ := rep2.own i _ hi hq2
          rw [h1] at w1
          cases w1
          cases w4 with
          | lst r1 =>
            refine ⟨a, _, n, j, rfl, dt_int rm2, w2, by rw [r1.len]; exact hj, ?_⟩
            exact fin2 σ _ G2 (rep2.updL hi h1 hq2 (r1.set j (Dt.same st2.g rm))) (.of (st2.tr (Stp.upd hi h1)))
        · exact fin2.elim
      · exact fin2.elim
    · exact fin1.elim⟩
/-! ### built-in functions -/
theorem rv1 {xs : List V} {d : D} (h : RVs Γ H G xs [d]) : ∃ v, xs = [v] ∧ RM Γ .root H H G v d := by
  cases h with
  | cons h r => cases r; exact ⟨_, rfl, h⟩
theorem rv2 {xs : List V} {d d2 : D} (h : RVs Γ H G xs [d, d2]) : ∃ v v2, xs = [v, v2] ∧ RM Γ .root H H G v d ∧ RM Γ .root H H G v2 d2 := by
  cases h with
  | cons h r =>
    obtain ⟨v, rfl, q⟩ := rv1 r
    exact ⟨_, v, rfl, h, q⟩
def b_len : List D → Option D
  | [.str s] => if s.length ≤ sizeLine then some (.int (s.length : Nat)) else none
  | [.tup ds] => some (.int (ds.length : Nat))
  | [.lst ds] => some (.int (ds.length : Nat))
  | [.slst ns] => some (.int (ns.length : Nat))
  | _ => none
theorem o_len {K : PySem.W.Frag} (hK : X.K = K := by rfl) : CallR X (.builtin "len") (fun xs H Q => ∃ x n, xs = [x] ∧ LenV K x H n ∧ Q (.int n) H) := by
  subst hK
  exact call_len
theorem so_len : SoA Γ .full (fun xs H Q => ∃ x n, xs = [x] ∧ LenV Γ.K x H n ∧ Q (.int (n : Nat)) H) b_len := fun H G xs ds z Q s rv e q => by
  unfold b_len at e
  split at e
  · split at e
    · rename_i y hc
      cases e
      obtain ⟨v, rfl, h⟩ := rv1 rv
      cases root_str h
      exact ⟨_, _, rfl, ⟨hc, rfl⟩, q _ H G (Ext.refl s) (.int _)⟩
    · cases e
  · cases e
    obtain ⟨v, rfl, h⟩ := rv1 rv
    obtain ⟨a, vs, rfl, _, h1, h2⟩ := root_tup s h
    exact ⟨_, _, rfl, .inr ⟨vs, h1, h2.len.symm⟩, q _ H G (Ext.refl s) (.int _)⟩
  · cases e
    obtain ⟨v, rfl, h⟩ := rv1 rv
    obtain ⟨a, vs, rfl, h1, h2⟩ := root_lst s h
    exact ⟨_, _, rfl, .inl ⟨vs, SqL.of h1, h2.len.symm⟩, q _ H G (Ext.refl s) (.int _)⟩
  · cases e
    obtain ⟨v, rfl, h⟩ := rv1 rv
    obtain ⟨a, vs, rfl, h1, h2⟩ := root_list s h rfl
    exact ⟨_, _, rfl, .inl ⟨vs, h1, by rw [h2.len, List.length_map]⟩, q _ H G (Ext.refl s) (.int _)⟩
  · cases e
def b_max2 : List D → Option D
  | [.int i, .int j] => some (.int (if j > i then j else i))
  | _ => none
def b_min2 : List D → Option D
  | [.int i, .int j] => some (.int (if j < i then j else i))
  | _ => none
theorem so_max2 : SoA Γ .full (fun xs H Q => ∃ i j, xs = [.int i, .int j] ∧ Q (.int (if j > i then j else i)) H) b_max2 := fun H G xs ds z Q s rv e q => by
  unfold b_max2 at e
  split at e
  · cases e
    obtain ⟨v, v2, rfl, h, h2⟩ := rv2 rv
    cases root_int h
    cases root_int h2
    exact ⟨_, _, rfl, q _ H G (Ext.refl s) (.int _)⟩
  · cases e
theorem so_min2 : SoA Γ .full (fun xs H Q => ∃ i j, xs = [.int i, .int j] ∧ Q (.int (if j < i then j else i)) H) b_min2 := fun H G xs ds z Q s rv e q => by
  unfold b_min2 at e
  split at e
  · cases e
    obtain ⟨v, v2, rfl, h, h2⟩ := rv2 rv
    cases root_int h
    cases root_int h2
    exact ⟨_, _, rfl, q _ H G (Ext.refl s) (.int _)⟩
  · cases e
def b_int : List D → Option D
  | [.int i] => some (.int i)
  | [.bl b] => some (.int (if b then 1 else 0))
  | _ => none
theorem so_int1 : SoA Γ .full (fun xs H Q => (∃ i, xs = [.int i] ∧ Q (.int i) H) ∨ ∃ k, xs = [.bl k] ∧ Q (.int (if k then 1 else 0)) H) b_int := fun H G xs ds z Q s rv e q => by
  unfold b_int at e
  split at e
  · cases e
    obtain ⟨v, rfl, h⟩ := rv1 rv
    cases root_int h
    exact .inl ⟨_, rfl, q _ H G (Ext.refl s) (.int _)⟩
  · cases e
    obtain ⟨v, rfl, h⟩ := rv1 rv
    cases root_bl h
    exact .inr ⟨_, rfl, q _ H G (Ext.refl s) (.int _)⟩
  · cases e
def b_abs : List D → Option D
  | [.int i] => some (.int (if i < 0 then -i else i))
  | _ => none
theorem so_abs : SoA Γ .full (fun xs H Q => ∃ i, xs = [.int i] ∧ Q (.int (if i < 0 then -i else i)) H) b_abs := fun H G xs ds z Q s rv e q => by
  unfold b_abs at e
  split at e
  · cases e
    obtain ⟨v, rfl, h⟩ := rv1 rv
    cases root_int h
    exact ⟨_, rfl, q _ H G (Ext.refl s) (.int _)⟩
  · cases e
/-- a list of ints as it is read -/
theorem rv_ints {xs : List V} {d : D} {ns : List Int} (s : Same G H) (rv : RVs Γ H G xs [d]) (e : (listD d).bind intsD = some ns) : ∃ a, xs = [.ref a] ∧ SqL Γ.K H a (ns.map V.int) := by
  obtain ⟨ds, e1, e2⟩ := Option.bind_eq_some_iff.mp e
  obtain ⟨v, rfl, h⟩ := rv1 rv
  obtain ⟨a, vs, rfl, h1, h2⟩ := root_list s h e1
  have e3 := intsD_eq e2
  subst e3
  have e4 := h2.of_ints
  subst e4
  exact ⟨a, rfl, h1⟩
def b_sum : List D → Option D
  | [d] => ((listD d).bind intsD).map fun ns => .int ns.sum
  | _ => none
theorem o_sum {K : PySem.W.Frag} (hc : X.calm = true) (hK : X.K = K := by rfl) : CallR X (.builtin "sum") (rSum K) := by
  subst hK
  exact cr_sum hc
theorem so_sum : SoA Γ .full (rSum Γ.K) b_sum := fun H G xs ds z Q s rv e q => by
  unfold b_sum at e
  split at e
  · obtain ⟨ns, e1, rfl⟩ := Option.map_eq_some_iff.mp e
    obtain ⟨a, rfl, h⟩ := rv_ints s rv e1
    exact ⟨a, ns, rfl, h, q _ H G (Ext.refl s) (.int _)⟩
  · cases e
def maxL : List Int → Int
  | [] => 0
  | [n] => n
  | n :: ns => max n (maxL ns)
def minL : List Int → Int
  | [] => 0
  | [n] => n
  | n :: ns => min n (minL ns)
theorem maxL_ok : ∀ {ns : List Int}, 0 < ns.length → maxL ns ∈ ns ∧ ∀ y ∈ ns, y ≤ maxL ns
  | [n], _ => ⟨List.mem_singleton.mpr rfl, fun y h => by rw [List.mem_singleton.mp h]; exact Int.le_refl _⟩
  | n :: k :: ns, _ => by
    obtain ⟨h1, h2⟩ := maxL_ok (ns := k :: ns) (by simp)
    have e : maxL (n :: k :: ns) = max n (maxL (k :: ns)) := rfl
    rw [e]
    constructor
    · by_cases c : n ≤ maxL (k :: ns)
      · rw [Int.max_eq_right c]; exact List.mem_cons_of_mem _ h1
      · rw [Int.max_eq_left (by omega)]; exact List.mem_cons_self
    · intro y hy
      rcases List.mem_cons.mp hy with rfl | hy
      · omega
      · have := h2 y hy
        omega
theorem minL_ok : ∀ {ns : List Int}, 0 < ns.length → minL ns ∈ ns ∧ ∀ y ∈ ns, minL ns ≤ y
  | [n], _ => ⟨List.mem_singleton.mpr rfl, fun y h => by rw [List.mem_singleton.mp h]; exact Int.le_refl _⟩
  | n :: k :: ns, _ => by
    obtain ⟨h1, h2⟩ := minL_ok (ns := k :: ns) (by simp)
    have e : minL (n :: k :: ns) = min n (minL (k :: ns)) := rfl
    rw [e]
    constructor
    · by_cases c : n ≤ minL (k :: ns)
      · rw [Int.min_eq_left c]; exact List.mem_cons_self
      · rw [Int.min_eq_right (by omega)]; exact List.mem_cons_of_mem _ h1
    · intro y hy
      rcases List.mem_cons.mp hy with rfl | hy
      · omega
      · have := h2 y hy
        omega
def b_max1 : List D → Option D
  | [d] => ((listD d).bind intsD).bind fun ns => if 0 < ns.length then some (.int (maxL ns)) else none
  | _ => none
def b_min1 : List D → Option D
  | [d] => ((listD d).bind intsD).bind fun ns => if 0 < ns.length then some (.int (minL ns)) else none
  | _ => none
theorem o_max1 {K : PySem.W.Frag} (hc : X.calm = true) (hK : X.K = K := by rfl) : CallR X (.builtin "max") (rMax K) := by
  subst hK
  exact cr_max hc
theorem o_min1 {K : PySem.W.Frag} (hc : X.calm = true) (hK : X.K = K := by rfl) : CallR X (.builtin "min") (rMin K) := by
  subst hK
  exact cr_min hc
theorem so_max1 : SoA Γ .full (rMax Γ.K) b_max1 := fun H G xs ds z Q s rv e q => by
  unfold b_max1 at e
  split at e
  · obtain ⟨ns, e1, e2⟩ := Option.bind_eq_some_iff.mp e
    split at e2
    · rename_i hc
      cases e2
      obtain ⟨a, rfl, h⟩ := rv_ints s rv e1
      refine ⟨a, ns, rfl, h, hc, fun m h1 h2 => ?_⟩
      obtain ⟨q1, q2⟩ := maxL_ok hc
      have e3 : m = maxL ns := Int.le_antisymm (q2 m h1) (h2 _ q1)
      rw [e3]
      exact q _ H G (Ext.refl s) (.int _)
    · cases e2
  · cases e
theorem so_min1 : SoA Γ .full (rMin Γ.K) b_min1 := fun H G xs ds z Q s rv e q => by
  unfold b_min1 at e
  split at e
  · obtain ⟨ns, e1, e2⟩ := Option.bind_eq_some_iff.mp e
    split at e2
    · rename_i hc
      cases e2
      obtain ⟨a, rfl, h⟩ := rv_ints s rv e1
      refine ⟨a, ns, rfl, h, hc, fun m h1 h2 => ?_⟩
      obtain ⟨q1, q2⟩ := minL_ok hc
      have e3 : m = minL ns := Int.le_antisymm (h2 _ q1) (q2 m h1)
      rw [e3]
      exact q _ H G (Ext.refl s) (.int _)
    · cases e2
  · cases e
def b_all : List D → Option D
  | [d] => ((listD d).bind blsD).map fun bs => .bl (bs.all id)
  | _ => none
def b_any : List D → Option D
  | [d] => ((listD d).bind blsD).map fun bs => .bl (bs.any id)
  | _ => none
theorem rv_bls {xs : List V} {d : D} {bs : List Bool} (s : Same G H) (rv : RVs Γ H G xs [d]) (e : (listD d).bind blsD = some bs) : ∃ a, xs = [.ref a] ∧ SqL Γ.K H a (bs.map V.bl) := by
  obtain ⟨ds, e1, e2⟩ := Option.bind_eq_some_iff.mp e
  obtain ⟨v, rfl, h⟩ := rv1 rv
  obtain ⟨a, vs, rfl, h1, h2⟩ := root_list s h e1
  have e3 := blsD_eq e2
  subst e3
  have e4 := Dts.bls h2
  subst e4
  exact ⟨a, rfl, h1⟩
theorem o_all {K : PySem.W.Frag} (hc : X.calm = true) (hK : X.K = K := by rfl) : CallR X (.builtin "all") (rAll K) := by
  subst hK
  exact cr_all hc
theorem o_any {K : PySem.W.Frag} (hc : X.calm = true) (hK : X.K = K := by rfl) : CallR X (.builtin "any") (rAny K) := by
  subst hK
  exact cr_any hc
theorem so_all : SoA Γ .full (rAll Γ.K) b_all := fun H G xs ds z Q s rv e q => by
  unfold b_all at e
  split at e
  · obtain ⟨ns, e1, rfl⟩ := Option.map_eq_some_iff.mp e
    obtain ⟨a, rfl, h⟩ := rv_bls s rv e1
    exact ⟨a, ns, rfl, h, q _ H G (Ext.refl s) (.bl _)⟩
  · cases e
theorem so_any : SoA Γ .full (rAny Γ.K) b_any := fun H G xs ds z Q s rv e q => by
  unfold b_any at e
  split at e
  · obtain ⟨ns, e1, rfl⟩ := Option.map_eq_some_iff.mp e
    obtain ⟨a, rfl, h⟩ := rv_bls s rv e1
    exact ⟨a, ns, rfl, h, q _ H G (Ext.refl s) (.bl _)⟩
  · cases e
/-- sorting -/
def insI (n : Int) : List Int → List Int
  | [] => [n]
  | k :: ks => if n ≤ k then n :: k :: ks else k :: insI n ks
def isort : List Int → List Int
  | [] => []
  | n :: ns => insI n (isort ns)
theorem insI_perm (n : Int) : ∀ ks : List Int, (insI n ks).Perm (n :: ks)
  | [] => .refl _
  | k :: ks => by
    unfold insI
    split
    · exact .refl _
    · exact ((insI_perm n ks).cons k).trans (.swap n k ks)
theorem isort_perm : ∀ ns : List Int, (isort ns).Perm ns
  | [] => .refl _
  | n :: ns => (insI_perm n _).trans ((isort_perm ns).cons n)
theorem insI_sorted (n : Int) : ∀ {ks : List Int}, ks.Pairwise (· ≤ ·) → (insI n ks).Pairwise (· ≤ ·)
  | [], _ => List.pairwise_singleton _ _
  | k :: ks, h => by
    unfold insI
    obtain ⟨h1, h2⟩ := List.pairwise_cons.mp h
    split
    · rename_i c
      refine List.pairwise_cons.mpr ⟨fun y hy => ?_, h⟩
      rcases List.mem_cons.mp hy with rfl | hy
      · exact c
      · exact Int.le_trans c (h1 y hy)
    · rename_i c
      refine List.pairwise_cons.mpr ⟨fun y hy => ?_, insI_sorted n h2⟩
      rcases List.mem_cons.mp ((insI_perm n ks).mem_iff.mp hy) with rfl | hy
      · omega
      · exact h1 y hy
theorem isort_sorted : ∀ ns : List Int, (isort ns).Pairwise (· ≤ ·)
  | [] => .nil
  | n :: ns => insI_sorted n (isort_sorted ns)
theorem sorted_uniq : ∀ {as bs : List Int}, as.Perm bs → as.Pairwise (· ≤ ·) → bs.Pairwise (· ≤ ·) → as = bs
  | [], bs, p, _, _ => (List.nil_perm.mp p).symm ▸ rfl
  | a :: as, [], p, _, _ => by have := p.length_eq; simp at this
  | a :: as, b :: bs, p, h1, h2 => by
    obtain ⟨q1, q2⟩ := List.pairwise_cons.mp h1
    obtain ⟨q3, q4⟩ := List.pairwise_cons.mp h2
    have hab : a = b := by
      have m1 : a ∈ b :: bs := p.mem_iff.mp List.mem_cons_self
      have m2 : b ∈ a :: as := p.mem_iff.mpr List.mem_cons_self
      rcases List.mem_cons.mp m1 with e | m1
      · exact e
      · rcases List.mem_cons.mp m2 with e | m2
        · exact e.symm
        · exact Int.le_antisymm (q1 b m2) (q3 a m1)
    subst hab
    rw [sorted_uniq (List.Perm.cons_inv p) q2 q4]
def b_sorted : List D → Option D
  | [d] => ((listD d).bind intsD).map fun ns => .lst ((isort ns).map .int)
  | _ => none
theorem o_sorted {K : PySem.W.Frag} (hK : X.K = K := by rfl) : CallR X (.builtin "sorted") (rSortedI K) := by
  subst hK
  exact cr_sortedI
theorem so_sorted : SoA Γ .own (rSortedI Γ.K) b_sorted := fun H G xs ds z Q s rv e q => by
  unfold b_sorted at e
  split at e
  · obtain ⟨ns, e1, rfl⟩ := Option.map_eq_some_iff.mp e
    obtain ⟨a, rfl, h⟩ := rv_ints s rv e1
    refine ⟨a, ns, rfl, h, fun ns' p hp hs np => ?_⟩
    have e2 : ns' = isort ns := sorted_uniq (hp.trans (isort_perm ns).symm) hs (isort_sorted ns)
    subst e2
    exact q _ _ G (Ext.newOwn s np) ⟨p, _, rfl, np, upd_same, free_sub s np, .lst (Dts.ints _)⟩
  · cases e
def b_list : List D → Option D
  | [.tup ds] => some (.lst ds)
  | [d] => (listD d).map .lst
  | _ => none
theorem o_list {K : PySem.W.Frag} (hK : X.K = K := by rfl) : CallR X (.type "list") (fun xs H Q => ∃ p ys, xs = [.ref p] ∧ (SqL K H p ys ∨ SqT K H p ys) ∧ ∀ l, H l = none → Q (.ref l) (upd H l (.lst ys))) := by
  subst hK
  exact call_list_of
theorem so_list : SoA Γ .own (fun xs H Q => ∃ p ys, xs = [.ref p] ∧ (SqL Γ.K H p ys ∨ SqT Γ.K H p ys) ∧ ∀ l, H l = none → Q (.ref l) (upd H l (.lst ys))) b_list := fun H G xs ds z Q s rv e q => by
  unfold b_list at e
  split at e
  · cases e
    obtain ⟨v, rfl, h⟩ := rv1 rv
    obtain ⟨a, vs, rfl, _, h1, h2⟩ := root_tup s h
    exact ⟨a, vs, rfl, .inr h1, fun l nl => q _ _ G (Ext.newOwn s nl) ⟨l, _, rfl, nl, upd_same, free_sub s nl, .lst h2⟩⟩
  · obtain ⟨es, e1, rfl⟩ := Option.map_eq_some_iff.mp e
    obtain ⟨v, rfl, h⟩ := rv1 rv
    obtain ⟨a, vs, rfl, h1, h2⟩ := root_list s h e1
    exact ⟨a, vs, rfl, .inl h1, fun l nl => q _ _ G (Ext.newOwn s nl) ⟨l, _, rfl, nl, upd_same, free_sub s nl, .lst h2⟩⟩
  · cases e
/-! ### texts -/
def m_count : D → List D → Option D
  | .str a, [.str b] => some (.int (Txt.count a b))
  | _, _ => none
/-- what a text's method gives -/
def eTxt (op : D → List D → Option D) (f : E) (g : EA) : E := fun ρ => eBind (f ρ) fun d ρ1 => match d with
  | .str _ => aBind (g ρ1) fun ds ρ2 => lift (op d ds) ρ2
  | _ => none
def SoT (Γ : Ga) (m : Md) (r : V → List V → Hp → VK → Prop) (op : D → List D → Option D) : Prop := ∀ (H G : Hp) (x : Str) (xs : List V) (ds : List D) (z : D) (Q : VK), Same G H → RVs Γ H G xs ds → op (.str x) ds = some z →
  (∀ v H' G', Ext H G H' G' → RM Γ m H H' G' v z → Q v H') → r (.str x) xs H Q
theorem so_count : SoT Γ .full (fun x xs H Q => ∃ a b, x = .str a ∧ xs = [.str b] ∧ Q (.int (Txt.count a b)) H) m_count := fun H G x xs ds z Q s rv e q => by
  unfold m_count at e
  split at e
  · rename_i h
    cases e
    cases h
    obtain ⟨v, rfl, h⟩ := rv1 rv
    cases root_str h
    exact ⟨_, _, rfl, rfl, q _ H G (Ext.refl s) (.int _)⟩
  · cases e
theorem me_txt {o : Expr} {nm : Str} {r : V → List V → Hp → VK → Prop} {op : D → List D → Option D} {apos cpos : Pos} (so : SoT Γ m r op) (h : ∀ {to : TE} {t : L2.TA}, PE X o to → PA X (e :: es) t → PE X (.Call (.Attribute o nm apos) (e :: es) [] cpos) (tBM X.K "str" r to t))
    (ho : PE X o (tE Γ cs ts W .full f)) (ha : PA X (e :: es) (tA Γ cs ts W ks g)) (hk : ∀ k ∈ ks, k.nc = true := by decide) : PE X (.Call (.Attribute o nm apos) (e :: es) [] cpos) (tE Γ cs ts W m (eTxt op f g)) :=
  PE.imp (h ho ha) fun σ H Q ⟨G, ρ, rep, fin⟩ => ⟨G, ρ, rep, fin_bind all_sub fin fun v d ρ1 H1 G1 rep1 st1 rm fin1 => by
    cases d with
    | str x =>
      cases (show Dt Γ G1 v (.str x) from rm)
      refine ⟨rfl, G1, ρ1, rep1, finA_bind (show Fin Γ cs ts W m σ H1 G1 Q _ from fin1.step st1) fun vs ds ρ2 H2 G2 rep2 st2 rk fin2 => ?_⟩
      cases e : op (.str x) ds with
      | none => rw [e] at fin2; exact fin2.elim
      | some z =>
        rw [e] at fin2
        exact so H2 G2 x vs ds z Q rep2.sub (rk.roots hk) e fun u H' G' ex rm => fin_ret (fin2.step st2) rep2 ex rm
    | _ => exact (show False from fin1).elim⟩
end
end Mi

set_option Elab.async false
set_option linter.all false
set_option maxRecDepth 100000
set_option maxHeartbeats 4000000
namespace Mi
open PySem PySem.Spec PyProof.Rows L2
section
variable {Γ : Ga} {S : Sx} {cs cs' ts : List Nat} {W : WX} {m : Md} {σ : L2.St} {H G H1 G1 H0 : Hp} {ρ ρ1 : Env} {f f1 f2 f3 : E} {g : EA} {X : Cx} {e a b c d : Expr} {es : List Expr} {ks : List Kd} {Q : VK} {pos : Pos}
/-! ### chains of comparisons -/
def eChain (op op' : D → D → Option D) (f1 f2 f3 : E) : E := fun ρ => eBind (f1 ρ) fun a ρ1 => eBind (f2 ρ1) fun b ρ2 => match op a b with
  | some (.bl true) => eBind (f3 ρ2) fun c ρ3 => lift (op' b c) ρ3
  | some (.bl false) => some (.ok (.bl false) ρ2)
  | _ => none
theorem chain_core {ta tb tc : TE} {r r' : R2} {op op' : D → D → Option D} (so : So2 Γ .full r op) (so' : So2 Γ .full r' op') (ha : ∀ σ H Q, tE Γ cs ts W .full f1 σ H Q → ta σ H Q) (hb : ∀ σ H Q, tE Γ cs ts W .full f2 σ H Q → tb σ H Q) (hc : ∀ σ H Q, tE Γ cs ts W .full f3 σ H Q → tc σ H Q)
    (h : tE Γ cs ts W .full (eChain op op' f1 f2 f3) σ H Q) : tChain r r' ta tb tc σ H Q := by
  obtain ⟨G, ρ, rep, fin⟩ := h
  refine ha σ H _ ⟨G, ρ, rep, fin_bind all_sub fin fun v d ρ1 H1 G1 rep1 st1 rm1 fin1 => ?_⟩
  refine hb σ H1 _ ⟨G1, ρ1, rep1, fin_bind all_sub (fin1.step st1) fun v2 d2 ρ2 H2 G2 rep2 st2 rm2 fin2 => ?_⟩
  cases e : op d d2 with
  | none => rw [e] at fin2; exact fin2.elim
  | some z =>
    rw [e] at fin2
    cases z with
    | bl k =>
      refine so H2 G2 v v2 d d2 (.bl k) _ rep2.sub (.inl (Dt.same st2.g rm1)) (.inl rm2) e fun u H3 G3 ex rm3 => ?_
      cases (show Dt Γ G3 u (.bl k) from rm3)
      have rep3 := rep2.ext ex
      refine ⟨k, rfl, ?_⟩
      cases k with
      | false =>
        rw [if_neg Bool.false_ne_true]
        exact (show Fin Γ cs ts W .full σ H1 G1 Q (some (.ok (.bl false) ρ2)) from fin2) _ H3 G3 rep3 (st2.tr ex.any) (.bl false)
      | true =>
        rw [if_pos rfl]
        have s3 : Stp (T ts σ) H1 G1 H3 G3 := st2.tr ex.any
        refine hc σ H3 _ ⟨G3, ρ2, rep3, fin_bind all_sub (Fin.step (show Fin Γ cs ts W .full σ H1 G1 Q (eBind (f3 ρ2) fun c ρ3 => lift (op' d2 c) ρ3) from fin2) s3) fun v4 d4 ρ4 H4 G4 rep4 st4 rm4 fin4 => ?_⟩
        cases e2 : op' d2 d4 with
        | none => rw [e2] at fin4; exact fin4.elim
        | some z2 =>
          rw [e2] at fin4
          exact so' H4 G4 v2 v4 d2 d4 z2 Q rep4.sub (.inl (Dt.same st4.g (Dt.same ex.st.g rm2))) (.inl rm4) e2 fun u H' G' ex' rm => fin_ret (fin4.step st4) rep4 ex' rm
    | _ => exact (show False from fin2).elim
section
variable {o o' : CmpOp} {r r' : R2} {op op' : D → D → Option D}
theorem me_chain (ho : OpR X (compareOp o) r) (ho' : OpR X (compareOp o') r') (so : So2 Γ .full r op) (so' : So2 Γ .full r' op') (ha : PE X a (tE Γ cs ts W .full f1)) (hb : PE X b (tE Γ cs ts W .full f2)) (hc : PE X c (tE Γ cs ts W .full f3))
    (hm : lastMarks [o, o'] [b, c] = false := by with_unfolding_all rfl) : PE X (.Compare a [o, o'] [b, c] pos) (tE Γ cs ts W .full (eChain op op' f1 f2 f3)) :=
  PE.imp (pe_chain ho ho' ha hb hc hm) fun _ _ _ h => chain_core so so' (fun _ _ _ h => h) (fun _ _ _ h => h) (fun _ _ _ h => h) h
theorem mt_chain (ho : OpR X (compareOp o) r) (ho' : OpR X (compareOp o') r') (so : So2 Γ .full r op) (so' : So2 Γ .full r' op') (ha : PE X a (tE Γ cs ts W .full f1)) (hb : PE X b (tE Γ cs ts W .full f2)) (hc : PE X c (tE Γ cs ts W .full f3))
    (hm : lastMarks [o, o'] [b, c] = false := by with_unfolding_all rfl) : PT X (.Compare a [o, o'] [b, c] pos) (tT Γ cs ts W (eChain op op' f1 f2 f3)) :=
  PT.imp (pt_chain ho ho' ha hb hc hm) fun _ _ _ h => chain_core so so' (fun _ _ _ h => h) (fun _ _ _ h => h) (fun _ _ _ h => h) h.te
end
def eChain3 (op op' op'' : D → D → Option D) (f0 f1 f2 f3 : E) : E := fun ρ => eBind (f0 ρ) fun a ρ1 => eBind (f1 ρ1) fun b ρ2 => match op a b with
  | some (.bl true) => eBind (f2 ρ2) fun c ρ3 => (match op' b c with
    | some (.bl true) => eBind (f3 ρ3) fun d ρ4 => lift (op'' c d) ρ4
    | some (.bl false) => some (.ok (.bl false) ρ3)
    | _ => none)
  | some (.bl false) => some (.ok (.bl false) ρ2)
  | _ => none
theorem chain3_core {ta tb tc td : TE} {f0 : E} {r r' r'' : R2} {op op' op'' : D → D → Option D} (so : So2 Γ .full r op) (so' : So2 Γ .full r' op') (so'' : So2 Γ .full r'' op'') (ha : ∀ σ H Q, tE Γ cs ts W .full f0 σ H Q → ta σ H Q) (hb : ∀ σ H Q, tE Γ cs ts W .full f1 σ H Q → tb σ H Q)
    (hc : ∀ σ H Q, tE Γ cs ts W .full f2 σ H Q → tc σ H Q) (hd : ∀ σ H Q, tE Γ cs ts W .full f3 σ H Q → td σ H Q)
    (h : tE Γ cs ts W .full (eChain3 op op' op'' f0 f1 f2 f3) σ H Q) : Lk.tChain3 r r' r'' ta tb tc td σ H Q := by
  obtain ⟨G, ρ, rep, fin⟩ := h
  refine ha σ H _ ⟨G, ρ, rep, fin_bind all_sub fin fun v d ρ1 H1 G1 rep1 st1 rm1 fin1 => ?_⟩
  refine hb σ H1 _ ⟨G1, ρ1, rep1, fin_bind all_sub (fin1.step st1) fun v2 d2 ρ2 H2 G2 rep2 st2 rm2 fin2 => ?_⟩
  cases e : op d d2 with
  | none => rw [e] at fin2; exact fin2.elim
  | some z =>
    rw [e] at fin2
    cases z with
    | bl k =>
      refine so H2 G2 v v2 d d2 (.bl k) _ rep2.sub (.inl (Dt.same st2.g rm1)) (.inl rm2) e fun u H3 G3 ex rm3 => ?_
      cases (show Dt Γ G3 u (.bl k) from rm3)
      have rep3 := rep2.ext ex
      refine ⟨k, rfl, ?_⟩
      cases k with
      | false =>
        rw [if_neg Bool.false_ne_true]
        exact (show Fin Γ cs ts W .full σ H1 G1 Q (some (.ok (.bl false) ρ2)) from fin2) _ H3 G3 rep3 (st2.tr ex.any) (.bl false)
      | true =>
        rw [if_pos rfl]
        have s3 : Stp (T ts σ) H1 G1 H3 G3 := st2.tr ex.any
        have fin3 : Fin Γ cs ts W .full σ H1 G1 Q (eBind (f2 ρ2) fun c ρ3 => (match op' d2 c with
          | some (.bl true) => eBind (f3 ρ3) fun d ρ4 => lift (op'' c d) ρ4
          | some (.bl false) => some (.ok (.bl false) ρ3)
          | _ => none)) := fin2
        refine hc σ H3 _ ⟨G3, ρ2, rep3, fin_bind all_sub (fin3.step s3) fun v4 d4 ρ4 H4 G4 rep4 st4 rm4 fin4 => ?_⟩
        cases e2 : op' d2 d4 with
        | none => rw [e2] at fin4; exact fin4.elim
        | some z2 =>
          rw [e2] at fin4
          cases z2 with
          | bl k2 =>
            refine so' H4 G4 v2 v4 d2 d4 (.bl k2) _ rep4.sub (.inl (Dt.same st4.g (Dt.same ex.st.g rm2))) (.inl rm4) e2 fun u H5 G5 ex5 rm5 => ?_
            cases (show Dt Γ G5 u (.bl k2) from rm5)
            have rep5 := rep4.ext ex5
            refine ⟨k2, rfl, ?_⟩
            cases k2 with
            | false =>
              rw [if_neg Bool.false_ne_true]
              exact (show Fin Γ cs ts W .full σ H3 G3 Q (some (.ok (.bl false) ρ4)) from fin4) _ H5 G5 rep5 (st4.tr ex5.any) (.bl false)
            | true =>
              rw [if_pos rfl]
              have s5 : Stp (T ts σ) H3 G3 H5 G5 := st4.tr ex5.any
              refine hd σ H5 _ ⟨G5, ρ4, rep5, fin_bind all_sub (Fin.step (show Fin Γ cs ts W .full σ H3 G3 Q (eBind (f3 ρ4) fun d ρ4 => lift (op'' d4 d) ρ4) from fin4) s5) fun v6 d6 ρ6 H6 G6 rep6 st6 rm6 fin6 => ?_⟩
              cases e3 : op'' d4 d6 with
              | none => rw [e3] at fin6; exact fin6.elim
              | some z3 =>
                rw [e3] at fin6
                exact so'' H6 G6 v4 v6 d4 d6 z3 Q rep6.sub (.inl (Dt.same st6.g (Dt.same ex5.st.g rm4))) (.inl rm6) e3 fun u H' G' ex' rm => fin_ret (fin6.step st6) rep6 ex' rm
          | _ => exact (show False from fin4).elim
    | _ => exact (show False from fin2).elim
section
variable {o o' o'' : CmpOp} {r r' r'' : R2} {op op' op'' : D → D → Option D} {f0 : E}
theorem me_chain3 (ho : OpR X (compareOp o) r) (ho' : OpR X (compareOp o') r') (ho'' : OpR X (compareOp o'') r'') (so : So2 Γ .full r op) (so' : So2 Γ .full r' op') (so'' : So2 Γ .full r'' op'') (ha : PE X a (tE Γ cs ts W .full f0)) (hb : PE X b (tE Γ cs ts W .full f1)) (hc : PE X c (tE Γ cs ts W .full f2)) (hd : PE X d (tE Γ cs ts W .full f3))
    (hm : lastMarks [o, o', o''] [b, c, d] = false := by with_unfolding_all rfl) : PE X (.Compare a [o, o', o''] [b, c, d] pos) (tE Γ cs ts W .full (eChain3 op op' op'' f0 f1 f2 f3)) :=
  PE.imp (Lk.pe_chain3 ho ho' ho'' ha hb hc hd hm) fun _ _ _ h => chain3_core so so' so'' (fun _ _ _ h => h) (fun _ _ _ h => h) (fun _ _ _ h => h) (fun _ _ _ h => h) h
end
/-! ### slices -/
def bdI : D → Option (Option Int)
  | .non => some none
  | .int i => some (some i)
  | _ => none
def eNo : E := fun ρ => some (.ok .non ρ)
def eBd (f : E) : E := fun ρ => eBind (f ρ) fun d ρ1 => match d with
  | .int i => some (.ok (.int i) ρ1)
  | _ => none
/-- e[lo:hi]; a missing bound is eNo -/
def eSl (op : D → Option Int → Option Int → Option D) (f lo hi : E) : E := fun ρ => eBind (f ρ) fun d ρ1 => eBind (lo ρ1) fun l ρ2 => eBind (hi ρ2) fun h ρ3 =>
  match bdI l, bdI h with
  | some i, some j => lift (op d i j) ρ3
  | _, _ => none
def SoS (Γ : Ga) (m : Md) (r : V → Option Int → Option Int → Hp → VK → Prop) (op : D → Option Int → Option Int → Option D) : Prop := ∀ (H G : Hp) (x : V) (d z : D) (lo hi : Option Int) (Q : VK), Same G H → RM Γ .root H H G x d → op d lo hi = some z →
  (∀ v H' G', Ext H G H' G' → RM Γ m H H' G' v z → Q v H') → r x lo hi H Q
def slL (d : D) (lo hi : Option Int) : Option D := (listD d).map fun ds => .lst (cutD ds lo hi)
def slT (d : D) (lo hi : Option Int) : Option D := match d with
  | .tup ds => some (.tup (cutD ds lo hi))
  | _ => none
def slX (d : D) (lo hi : Option Int) : Option D := match d with
  | .str z => if z.length ≤ sizeLine then some (.str (Txt.slice z lo hi)) else none
  | _ => none
theorem o_slL {K : PySem.W.Frag} (hK : X.K = K := by rfl) : SlR X (rSlL K) := by subst hK; exact sl_list
theorem o_slT {K : PySem.W.Frag} (hK : X.K = K := by rfl) : SlR X (rSlA K) := by subst hK; exact sl_tupA
theorem so_slL : SoS Γ .own (rSlL Γ.K) slL := fun H G x d z lo hi Q s rm e q => by
  obtain ⟨ds, e1, rfl⟩ := Option.map_eq_some_iff.mp e
  obtain ⟨a, vs, rfl, h1, h2⟩ := root_list s rm e1
  exact ⟨a, vs, rfl, h1, fun p np => q _ _ G (Ext.newOwn s np) ⟨p, _, rfl, np, upd_same, free_sub s np, .lst (h2.cut lo hi)⟩⟩
theorem cut_all {α : Type} {xs : List α} {lo hi : Option Int} (h : HT.sIx xs.length 0 lo = 0 ∧ HT.sIx xs.length xs.length hi = xs.length) : (xs.drop (HT.sIx xs.length 0 lo)).take (HT.sIx xs.length xs.length hi - HT.sIx xs.length 0 lo) = xs := by
  rw [h.1, h.2, List.drop_zero, Nat.sub_zero, List.take_length]
theorem so_slT : SoS Γ .full (rSlA Γ.K) slT := fun H G x d z lo hi Q s rm e q => by
  unfold slT at e
  split at e
  · cases e
    obtain ⟨a, vs, rfl, h0, h1, h2⟩ := root_tup s rm
    refine ⟨a, vs, rfl, h1, fun hw => ?_, fun hw p np => ?_⟩
    · have e2 : cutD _ lo hi = _ := cut_all (xs := _) (by rw [← h2.len]; exact hw)
      rw [e2] at q
      exact q _ H G (Ext.refl s) (Dt.tup h0 h2)
    · have ex : Ext H G (upd H p (.tup (cutV vs lo hi))) (upd G p (.tup (cutV vs lo hi))) := Ext.new s np
      exact q _ _ _ ex (Dt.tup SqT.in ((h2.cut lo hi).same ex.st.g))
  · cases e
theorem so_slX : SoS Γ .full C8.rSlX slX := fun H G x d z lo hi Q s rm e q => by
  unfold C8.rSlX
  unfold slX at e
  split at e
  · split at e
    · rename_i hc
      cases e
      exact ⟨_, root_str rm, hc, q _ H G (Ext.refl s) (.str _)⟩
    · cases e
  · cases e
/-- a bound -/
def FinO (Γ : Ga) (cs : List Nat) (W : WX) (σ : L2.St) (H G : Hp) (Q1 : Option Int → Hp → Prop) : Option R → Prop
  | none => False
  | some (.ok d ρ') => ∀ i, bdI d = some i → ∀ H' G', Rep Γ cs σ H' G' ρ' → Ext H G H' G' → Q1 i H'
  | some (.ex x ρ') => ∀ c dx H' G', Rep Γ cs σ H' G' ρ' → Stp (T [] σ) H G H' G' → Dx Γ H' G' c dx x → W c dx σ H'
def tO (Γ : Ga) (cs : List Nat) (W : WX) (f : E) : TO := fun σ H Q1 => ∃ G ρ, Rep Γ cs σ H G ρ ∧ FinO Γ cs W σ H G Q1 (f ρ)
theorem PO.imp {e : Option Expr} {t t' : TO} (h : PO X e t) (k : ∀ σ H Q, t' σ H Q → t σ H Q) : PO X e t' := ⟨fun pins s σ H Q I hw => h.run pins s σ H Q I (k σ H Q hw)⟩
theorem mo_none : PO X none (tO Γ cs W eNo) := PO.imp po_none fun σ H Q ⟨G, ρ, rep, fin⟩ => fin none rfl H G rep (Ext.refl rep.sub)
theorem mo_some (h : PE X e (tE Γ cs [] W .full f)) : PO X (some e) (tO Γ cs W (eBd f)) := PO.imp (po_some h) fun σ H Q ⟨G, ρ, rep, fin⟩ => ⟨G, ρ, rep, by
  unfold eBd at fin
  generalize f ρ = r at fin ⊢
  rcases r with _ | ⟨d, ρ'⟩ | ⟨x, ρ'⟩
  · exact fin
  · intro v H' G' rep' st rm
    cases d with
    | int i =>
      have fin2 : FinO Γ cs W σ H G Q (some (.ok (.int i) ρ')) := fin
      cases (show Dt Γ G' v (.int i) from rm)
      exact ⟨i, rfl, fin2 (some i) rfl H' G' rep' ⟨st.mono fun _ z => absurd z T.nil, rep'.sub⟩⟩
    | _ => exact (show False from fin).elim
  · exact fin⟩
theorem finO_bind {K : D → Env → Option R} {r : Option R} {Q1 : Option Int → Hp → Prop} (fin : Fin Γ cs ts W m σ H G Q (eBind r K)) (hk : ∀ i d ρ1 H1 G1, Rep Γ cs σ H1 G1 ρ1 → Ext H G H1 G1 → bdI d = some i → Fin Γ cs ts W m σ H G Q (K d ρ1) → Q1 i H1) : FinO Γ cs W σ H G Q1 r := by
  rcases r with _ | ⟨d, ρ'⟩ | ⟨x, ρ'⟩
  · exact fin
  · exact fun i e H' G' rep ex => hk i d ρ' H' G' rep ex e fin
  · exact fun c dx H' G' rep' st q => fin c dx H' G' rep' (st.mono fun _ z => absurd z T.nil) q
theorem me_sl {r : V → Option Int → Option Int → Hp → VK → Prop} {op : D → Option Int → Option Int → Option D} {lo hi : Option Expr} {fl fh : E} {p2 : Pos} (ho : SlR X r) (so : SoS Γ m r op) (he : PE X e (tE Γ cs ts W .root f)) (hl : PO X lo (tO Γ cs W fl)) (hh : PO X hi (tO Γ cs W fh)) :
    PE X (.Subscript e (.Slice lo hi none p2) pos) (tE Γ cs ts W m (eSl op f fl fh)) :=
  PE.imp (pe_slice ho he hl hh) fun σ H Q ⟨G, ρ, rep, fin⟩ => by
    refine ⟨G, ρ, rep, fin_bind all_sub fin fun v d ρ1 H1 G1 rep1 st1 rm1 fin1 => ?_⟩
    refine ⟨G1, ρ1, rep1, finO_bind (fin1.step st1) fun i dl ρ2 H2 G2 rep2 ex2 el fin2 => ?_⟩
    refine ⟨G2, ρ2, rep2, finO_bind (fin2.step ex2.any) fun j dh ρ3 H3 G3 rep3 ex3 eh fin3 => ?_⟩
    rw [el, eh] at fin3
    dsimp only at fin3
    cases e : op d i j with
    | none => rw [e] at fin3; exact fin3.elim
    | some z =>
      rw [e] at fin3
      have ex13 := ex2.trans ex3
      refine so H3 G3 v d z i j Q rep3.sub ?_ e fun u H' G' ex rm => fin_ret (fin3.step ex3.any) rep3 ex rm
      rcases rm1 with q | ⟨a, o, q1, q2, q3⟩
      · exact .inl (Dt.same ex13.st.g q)
      · exact .inr ⟨a, o, q1, ex13.h _ _ q2, q3.same ex13.st.g⟩
/-- s[::-1] of a text -/
def eRevS (f : E) : E := fun ρ => eBind (f ρ) fun d ρ1 => match d with
  | .str z => if z.length ≤ sizeLine then some (.ok (.str ⟨z.cps.reverse⟩) ρ1) else none
  | _ => none
theorem me_revS {k : Nat} {p1 p2 p3 : Pos} (he : PE X e (tE Γ cs ts W .full f)) : PE X (.Subscript e (.Slice none none (some (.UnaryOp .USub (.Constant (.int 1) k p1) p2)) p3) pos) (tE Γ cs ts W .full (eRevS f)) :=
  PE.imp (Lk.pe_revS he) fun σ H Q ⟨G, ρ, rep, fin⟩ => ⟨G, ρ, rep, fin_bind all_sub fin fun v d ρ1 H1 G1 rep1 st1 rm fin1 => by
    cases d with
    | str z =>
      cases (show Dt Γ G1 v (.str z) from rm)
      dsimp only at fin1
      split at fin1
      · rename_i hc
        exact ⟨z, rfl, hc, fin1 _ H1 G1 rep1 st1 (.str _)⟩
      · exact fin1.elim
    | _ => exact (show False from fin1).elim⟩
/-! ### raise -/
def sRaise (n : String) : SM := fun ρ => some (.ex (.exc n []) ρ)
theorem ms_raise {C : Addr} {n : String} (hn : Γ.ca n = C) (hc : X.calm = true) (tk : Takes X S.W) (he : PMk X e (fun _ H Q => Q (.ref C) none H)) (hx : ∀ i ∈ S.xc, i ∈ cs := by first | decide | (dsimp only [fxOf]; decide)) : PS X (.Raise (some e) none pos) (tS Γ S cs cs' (sRaise n)) :=
  PS.imp (ps_raise hc tk he) fun D0 σ H ⟨G, ρ, rep, fin⟩ => by
    obtain ⟨G2, rep2, s2, st2⟩ := rep.frz (fx := S.fx) hx
    exact (show FinS Γ S cs cs' D0 σ H G (some (.ex (.exc n []) ρ)) from fin) _ none σ H G2 rep2 st2 ⟨n, [], rfl, by rw [hn], .inl ⟨rfl, rfl⟩⟩
/-! ### repr -/
def reprP (p : PyData) : Option Str := if p.showable = true ∧ p.hasDict = false ∧ p.depth ≤ 8 ∧ p.shown.length ≤ sizeLine then some p.shown else none
def reprD : D → Option Str
  | .non => some "None"
  | .bl b => some (if b then "True" else "False")
  | .int i => if i.natAbs.log2 < 1920 then some (toString i) else none
  | .str s => if (reprText s).length ≤ sizeLine then some (reprText s) else none
  | .dic [] => some (PyData.dict []).shown
  | .tup ds => (D.pys ds).bind fun ps => reprP (.tuple ps)
  | .lst ds => (D.pys ds).bind fun ps => reprP (.list ps)
  | .slst ns => reprP (.list (ns.map .int))
  | _ => none
def b_repr : List D → Option D
  | [d] => (reprD d).map .str
  | _ => none
theorem o_repr {K : PySem.W.Frag} (hg : X.A.guards = some []) (hu : X.A.units + 64 < cLine) (hK : X.K = K := by rfl) : CallR X (.builtin "repr") (Lk.rReprV K) := by
  subst hK
  exact Lk.call_reprV hg hu
theorem so_repr : SoA Γ .full (Lk.rReprV Γ.K) b_repr := fun H G xs ds z Q s rv e q => by
  unfold b_repr at e
  split at e
  · rename_i d
    obtain ⟨x, e1, rfl⟩ := Option.map_eq_some_iff.mp e
    obtain ⟨v, rfl, h⟩ := rv1 rv
    refine ⟨v, x, rfl, ?_, q _ H G (Ext.refl s) (.str x)⟩
    have big : ∀ (a : Addr) (p : PyData), Dp Γ.K H (.ref a) p → reprP p = some x → Lk.ReprV Γ.K H (.ref a) x := by
      intro a p hd e2
      unfold reprP at e2
      split at e2
      · rename_i hc
        cases e2
        exact .data hd hc.1 hc.2.1 hc.2.2.1 hc.2.2.2
      · cases e2
    cases d with
    | non => cases e1; cases root_non h; exact .non
    | bl b => cases e1; cases root_bl h; exact .bl b
    | int i =>
      have e1' : (if i.natAbs.log2 < 1920 then some (toString i : Str) else none) = some x := e1
      by_cases hc : i.natAbs.log2 < 1920
      · rw [if_pos hc] at e1'
        cases e1'
        cases root_int h
        exact .int i hc
      · rw [if_neg hc] at e1'
        cases e1'
    | str y =>
      have e1' : (if (reprText y).length ≤ sizeLine then some (reprText y) else none) = some x := e1
      by_cases hc : (reprText y).length ≤ sizeLine
      · rw [if_pos hc] at e1'
        cases e1'
        cases root_str h
        exact .str y hc
      · rw [if_neg hc] at e1'
        cases e1'
    | dic kvs =>
      cases kvs with
      | nil =>
        cases e1
        rcases h with h | ⟨a, o, rfl, q, h⟩
        · cases h with
          | dK h r => cases r; exact .dict (s _ _ h)
        · cases h with
          | dK r => cases r; exact .dict q
      | cons => cases e1
    | tup ds =>
      obtain ⟨ps, h1, h2⟩ := Option.bind_eq_some_iff.mp (show (D.pys ds).bind (fun ps => reprP (.tuple ps)) = some x from e1)
      obtain ⟨a, vs, rfl, _⟩ := root_tup s h
      exact big a _ (py_root s h (show (D.pys ds).map PyData.tuple = _ by rw [h1]; rfl)) h2
    | lst ds =>
      obtain ⟨ps, h1, h2⟩ := Option.bind_eq_some_iff.mp (show (D.pys ds).bind (fun ps => reprP (.list ps)) = some x from e1)
      obtain ⟨a, vs, rfl, _⟩ := root_lst s h
      exact big a _ (py_root s h (show (D.pys ds).map PyData.list = _ by rw [h1]; rfl)) h2
    | slst ns =>
      obtain ⟨a, vs, rfl, _⟩ := root_list s h rfl
      exact big a _ (py_root s h (rfl : D.py (.slst ns) = some (.list (ns.map .int)))) e1
    | _ => cases e1
  · cases e
/-! ### truth of lists, numbers -/
def truD : D → Option Bool
  | .non => some false
  | .bl b => some b
  | .int i => some (i != 0)
  | .str y => if y.length ≤ sizeLine then some ((y.length : Int) != 0) else none
  | .lst ds => some (!ds.isEmpty)
  | .slst ds => some (!ds.isEmpty)
  | .tup ds => some (!ds.isEmpty)
  | _ => none
def eTru (f : E) : E := fun ρ => eBind (f ρ) fun d ρ1 => match truD d with
  | some b => some (.ok (.bl b) ρ1)
  | none => none
theorem emp_len {α β : Type} {xs : List α} {ys : List β} (h : xs.length = ys.length) : (!xs.isEmpty) = !ys.isEmpty := by
  cases xs <;> cases ys <;> first | rfl | (simp at h)
theorem tru_root {K : PySem.W.Frag} (hΓ : Γ.K = K) {v : V} {d : D} {b : Bool} (s : Same G H) (h : RM Γ .root H0 H G v d) (e : truD d = some b) : TruV K v H b := by
  subst hΓ
  cases d with
  | non => cases e; cases root_non h; rfl
  | bl b => cases e; cases root_bl h; rfl
  | int i => cases e; cases root_int h; rfl
  | str y =>
    have e' : (if y.length ≤ sizeLine then some ((y.length : Int) != 0) else none) = some b := e
    by_cases hc : y.length ≤ sizeLine
    · rw [if_pos hc] at e'
      cases e'
      cases root_str h
      exact ⟨hc, rfl⟩
    · rw [if_neg hc] at e'
      cases e'
  | lst ds =>
    cases e
    obtain ⟨a, vs, rfl, h1, h2⟩ := root_lst s h
    exact .inl ⟨vs, SqL.of h1, (emp_len h2.len).symm⟩
  | slst ds =>
    cases e
    obtain ⟨a, vs, rfl, h1, h2⟩ := root_list s h rfl
    exact .inl ⟨vs, h1, (emp_len (h2.len.trans (List.length_map _))).symm⟩
  | tup ds =>
    cases e
    obtain ⟨a, vs, rfl, _, h1, h2⟩ := root_tup s h
    exact .inr (.inl ⟨vs, h1, (emp_len h2.len).symm⟩)
  | _ => cases e
theorem mt_truth (ha : PE X a (tE Γ cs ts W .root f)) (he : ∀ whole, isTrue a X.env whole = (do let v ← whole; standAt a.pos; holding [v] (truthy v))) (hΓ : Γ.K = X.K := by rfl) : PT X a (tT Γ cs ts W (eTru f)) :=
  PT.imp (pt_truth ha he) fun σ H Q ⟨G, ρ, rep, fin⟩ => ⟨G, ρ, rep, by
    unfold eTru at fin
    generalize f ρ = r at fin ⊢
    rcases r with _ | ⟨d, ρ'⟩ | ⟨x, ρ'⟩
    · exact fin
    · intro v H' G' rep' st rm
      dsimp only [eBind_ok] at fin
      cases e : truD d with
      | none => rw [e] at fin; exact fin.elim
      | some b =>
        rw [e] at fin
        exact ⟨b, tru_root hΓ rep'.sub rm e, fin H' G' rep' st⟩
    · exact fin⟩
/-! ### isinstance -/
abbrev Kn := Bool × String
/-- a built-in type's name (true), or a class's -/
def knD : D → Option Kn
  | .non => some (true, "NoneType")
  | .bl _ => some (true, "bool")
  | .int _ => some (true, "int")
  | .str _ => some (true, "str")
  | .tup _ => some (true, "tuple")
  | .lst _ => some (true, "list")
  | .slst _ => some (true, "list")
  | .dic _ => some (true, "dict")
  | .ins n _ => some (false, n)
  | _ => none
def clD : D → Option Kn
  | .ty n => some (true, n)
  | .cls n => some (false, n)
  | _ => none
def Kn.val (Γ : Ga) : Kn → Value
  | (true, n) => .type n
  | (false, n) => .ref (Γ.ca n)
abbrev ITab := List (Kn × Kn × Bool)
def ITab.get (t : ITab) (a b : Kn) : Option Bool := (t.find? fun e => decide (e.1 = a ∧ e.2.1 = b)).map (·.2.2)
def ITab.Ok (Γ : Ga) (t : ITab) : Prop := ∀ e ∈ t, PySem.W.kitOne Γ.K (e.1.val Γ) (e.2.1.val Γ) = some e.2.2 ∧ (e.1.1 = false → C8.InsC Γ.K (Γ.ca e.1.2))
def b_isi (t : ITab) : List D → Option D
  | [d, c] => (knD d).bind fun a => (clD c).bind fun b => (t.get a b).map .bl
  | _ => none
theorem ty_root {v : V} {d : D} {n : String} (s : Same G H) (h : RM Γ .root H0 H G v d) (e : knD d = some (true, n)) : TyX Γ.K H v (.type n) := by
  cases d with
  | non => cases e; cases root_non h; exact .base .non
  | bl b => cases e; cases root_bl h; exact .base (.bl b)
  | int i => cases e; cases root_int h; exact .base (.int i)
  | str y => cases e; cases root_str h; exact .base (.str y)
  | tup ds =>
    cases e
    obtain ⟨a, vs, rfl, _, h1, h2⟩ := root_tup s h
    rcases h1 with (h1 | ⟨o, h1⟩) | ⟨o, its, k, h1, h3, _⟩
    · exact .base (.tup h1)
    · exact .fTuple h1
    · exact .kTuple h1 h3
  | lst ds =>
    cases e
    obtain ⟨a, vs, rfl, h1, h2⟩ := root_lst s h
    exact .base (.lst h1)
  | slst ds =>
    cases e
    obtain ⟨a, vs, rfl, h1, h2⟩ := root_list s h rfl
    rcases h1 with (h1 | ⟨o, h1⟩) | ⟨o, its, k, h1, h3, _⟩
    · exact .base (.lst h1)
    · exact .base (.frz h1)
    · exact .kList h1 h3
  | dic kvs =>
    cases e
    rcases h with h | ⟨a, o, rfl, q, h⟩
    · cases h with
      | dK h r => exact .base (.dK (s _ _ h))
    · cases h with
      | dK r => exact .base (.dK q)
  | ins n' fs => cases e
  | _ => cases e
theorem cl_root {v : V} {d : D} {b : Kn} (h : RM Γ .root H0 H G v d) (e : clD d = some b) : ClsV v (b.val Γ) := by
  rcases h with h | ⟨a, o, rfl, q, h⟩
  · cases h with
    | ty n => cases e; exact .ty n
    | cls n => cases e; exact .own _
    | _ => cases e
  · cases h <;> cases e
theorem o_isi {K : PySem.W.Frag} (hK : X.K = K := by rfl) : CallR X (.builtin "isinstance") (rIsi K) := by
  subst hK
  exact call_isi
theorem so_isi {t : ITab} (ok : t.Ok Γ) : SoA Γ .full (rIsi Γ.K) (b_isi t) := fun H G xs ds z Q s rv e q => by
  unfold b_isi at e
  split at e
  · obtain ⟨ka, e1, e2⟩ := Option.bind_eq_some_iff.mp e
    obtain ⟨kb, e3, e4⟩ := Option.bind_eq_some_iff.mp e2
    obtain ⟨b, e5, rfl⟩ := Option.map_eq_some_iff.mp e4
    obtain ⟨en, e6, rfl⟩ := Option.map_eq_some_iff.mp e5
    have e7 := List.find?_some e6
    obtain ⟨h1, h2⟩ := of_decide_eq_true e7
    subst h1 h2
    obtain ⟨q1, q2⟩ := ok en (List.mem_of_find?_eq_some e6)
    obtain ⟨v, v2, rfl, w1, w2⟩ := rv2 rv
    refine ⟨v, v2, en.1.val Γ, en.2.1.val Γ, en.2.2, rfl, cl_root w2 e3, ?_, q1, q _ H G (Ext.refl s) (.bl _)⟩
    obtain ⟨⟨b1, n1⟩, r⟩ := en
    cases b1 with
    | true => exact ty_root s w1 e1
    | false =>
      rename_i d c
      cases d with
      | ins n' fs =>
        cases e1
        have ic := q2 rfl
        obtain ⟨a, dx, gs, rfl, h1, h2⟩ := root_ins s w1
        exact .base (.ins h1 ic.cl ic.ha ic.hn ic.htk ic.hm)
      | _ => cases e1
  · cases e
/-! ### the bodies, the law -/
theorem fn_body0 {pm : List Bool} {rm : Md} {vs : List V} {E : XK} {N : List Str} {cs c' : List Nat} {n : Nat} {body : SM} {fall : Bool} (h : spM0 Γ pm rm (runF pm fall n body) vs H Q E) (hc : cellsAt 0 pm = cs) (hn : N.length = n) (hl : pm.length ≤ n) (hfall : fall = true → rm = .full ∧ ∀ i ∈ cs, i ∈ c') :
    tS Γ ⟨cs, [], cs, rm, W0⟩ cs c' body { nx := fun _ H' => Q .non H', rt := Q } (L2.start N vs) H := fn_body h hc hn hl hfall
theorem spM0_len {pm : List Bool} {rm : Md} {F : FnD} {vs : List V} {E : XK} (h : spM0 Γ pm rm F vs H Q E) : vs.length = pm.length := spM.len h
end
theorem law_end {P : Program} {w : World} {K : PySem.W.Frag} {mg : Str → Option Value} {base : Heap} {k : Nat} {f : Addr} {fd : FuncData} {Γ : Ga} {F : FnD} (hK : Γ.K = K := by rfl) (Fn : Lk.FnG P w K mg base k f fd ["script"] (spM0 Γ [false] .full F))
    (hl : ∀ ns : List Int, ns.length ≤ 63 → ∃ ds, F [.slst ns] = some (.ok (.bl true) ds)) :
    Lk.FnG P w K mg base k f fd ["script"] (fun vs H Q _ => ∃ (a : Addr) (ns : List Int), vs = [.ref a] ∧ SqL K H a (ns.map V.int) ∧ ns.length ≤ 63 ∧ ∀ H', Q (.bl true) H') := by
  subst hK
  have key : ∀ vs H Q E, (∃ (a : Addr) (ns : List Int), vs = [.ref a] ∧ SqL Γ.K H a (ns.map V.int) ∧ ns.length ≤ 63 ∧ ∀ H', Q (.bl true) H') → spM0 Γ [false] .full F vs H Q E := by
    rintro vs H Q E ⟨a, ns, rfl, hS, hn, q⟩
    obtain ⟨ds, e⟩ := hl ns hn
    refine ⟨H, [.slst ns], Same.refl H, ⟨rfl, rfl, fun i v d h1 h2 h3 => ?_, fun i v d h1 _ _ => ?_, fun i j a h1 _ _ _ => ?_⟩, ?_⟩
    · cases i with
      | zero =>
        cases h2
        cases h3
        exact .slst hS
      | succ i => simp at h1
    · cases i <;> simp at h1
    · cases i <;> simp at h1
    · rw [e]
      intro v H' G' _ _ _ rm
      cases (show Dt Γ G' v (.bl true) from rm)
      exact q H'
  exact ⟨fun vs H Q E h => Fn.wide vs H Q E (key vs H Q E h), fun A outer s H args us vs Q E hg hr e0 hb rv h => Fn.goes A outer s H args us vs Q E hg hr e0 hb rv (key vs H Q E h)⟩
/-- an expression that never raises -/
def NoEx (f : E) : Prop := ∀ ρ x ρ', f ρ ≠ some (.ex x ρ')
theorem lift_ok {o : Option D} {ρ ρ' : Env} {x : D} : lift o ρ ≠ some (.ex x ρ') := by
  cases o <;> simp [lift]
theorem nx_v {i : Nat} : NoEx (eV i) := fun ρ x ρ' h => by
  unfold eV at h
  split at h <;> simp at h
theorem nx_fld {ns : List String} {nm : Str} {f : E} (h : NoEx f) : NoEx (eFld ns nm f) := fun ρ x ρ' e => by
  unfold eFld at e
  cases q : f ρ with
  | none => rw [q] at e; cases e
  | some r =>
    rw [q] at e
    cases r with
    | ex y ρ1 => exact h _ _ _ q
    | ok d ρ1 =>
      simp only [eBind_ok] at e
      split at e
      · split at e
        · exact lift_ok e
        · cases e
      · cases e
theorem nx_b1 {op : List D → Option D} {f : E} (h : NoEx f) : NoEx (eB op (aCons f aNil)) := fun ρ x ρ' e => by
  unfold eB aCons aNil at e
  cases q : f ρ with
  | none => rw [q] at e; cases e
  | some r =>
    rw [q] at e
    cases r with
    | ex y ρ1 => exact h _ _ _ q
    | ok d ρ1 => exact lift_ok e
theorem nex_of {pm : List Bool} {fall : Bool} {n : Nat} {f : E} (h : NoEx f) : ∀ d x ds, runF pm fall n (sRet f) [d] ≠ some (.ex x ds) := fun d x ds e => by
  unfold runF sRet at e
  cases q : f (List.map some [d] ++ List.replicate (n - [d].length) none) with
  | none => rw [q] at e; cases e
  | some r =>
    rw [q] at e
    cases r with
    | ex y ρ1 => exact h _ _ _ q
    | ok d ρ1 => cases e
theorem kit_kt {K : PySem.W.Frag} {D : Addr} {c : String} {b : Bool} (h : PySem.W.mroIn K D (.type c) = some b) (hm : PySem.W.kitMeta c = true) : PySem.W.kitOne K (.ref D) (.type c) = some b := by
  unfold PySem.W.kitOne PySem.W.kitCls
  rw [if_neg (by intro z; cases (eq_of_beq z))]
  dsimp only
  rw [if_pos hm]
  exact h
theorem cls_some {K : PySem.W.Frag} {C : Addr} {v : Value} {b : Bool} (h : PySem.W.mroIn K C v = some b) : (PySem.W.clsIn K C).isSome = true := by
  unfold PySem.W.mroIn at h
  cases e : PySem.W.clsIn K C with
  | none => rw [e] at h; cases h
  | some _ => rfl
theorem kit_kc {K : PySem.W.Frag} {D C : Addr} {b : Bool} (h : PySem.W.mroIn K D (.ref C) = some b) (self : PySem.W.mroIn K C (.ref C) = some true) (t : PySem.W.typeIn K (.ref C) = some (.type "type")) : PySem.W.kitOne K (.ref D) (.ref C) = some b := by
  unfold PySem.W.kitOne PySem.W.kitCls
  by_cases e : D = C
  · subst e
    rw [self] at h
    rw [if_pos (beq_self_eq_true _)]
    exact h
  · rw [if_neg (by intro z; cases (eq_of_beq z); exact e rfl)]
    dsimp only
    rw [if_pos (by rw [cls_some self, t]; rfl)]
    exact h
theorem kit_kn {K : PySem.W.Frag} {C : Addr} {T : String} (hT : ∀ C : Addr, PySem.W.subIn K (.type T) (.ref C) = some false) (self : PySem.W.mroIn K C (.ref C) = some true) (t : PySem.W.typeIn K (.ref C) = some (.type "type")) : PySem.W.kitOne K (.type T) (.ref C) = some false := by
  unfold PySem.W.kitOne PySem.W.kitCls
  rw [if_neg (by intro z; cases (eq_of_beq z))]
  dsimp only
  rw [if_pos (by rw [cls_some self, t]; rfl)]
  exact hT C
end Mi

set_option Elab.async false
set_option linter.all false
set_option maxRecDepth 100000
set_option maxHeartbeats 4000000
namespace Mi
open PySem PySem.Spec PyProof.Rows L2
/-- a statement that is never met -/
def sDead : SM := fun _ => none
theorem ms_dead {Γ : Ga} {S : Sx} {cs cs' : List Nat} {X : Cx} {st : Stmt} : PS X st (tS Γ S cs cs' sDead) :=
  ⟨fun _ _ _ _ _ _ h => let ⟨_, _, _, z⟩ := h; (show False from z).elim⟩
section
variable {Γ : Ga} {S : Sx} {cs cs' ts : List Nat} {W : WX} {m : Md} {σ : L2.St} {H G H1 G1 H0 : Hp} {ρ ρ1 : Env} {f f1 f2 f3 : E} {g : EA} {X : Cx} {e a b c d o : Expr} {es : List Expr} {ks : List Kd} {Q : VK} {pos : Pos}
/-! ### a list backwards -/
def eRevL (f : E) : E := fun ρ => eBind (f ρ) fun d ρ1 => match listD d with
  | some ds => some (.ok (.lst ds.reverse) ρ1)
  | none => none
theorem me_revL {k : Nat} {p1 p2 p3 : Pos} (he : PE X e (tE Γ cs ts W .root f)) (hK : Γ.K = X.K := by rfl) : PE X (.Subscript e (.Slice none none (some (.UnaryOp .USub (.Constant (.int 1) k p1) p2)) p3) pos) (tE Γ cs ts W .own (eRevL f)) := by
  refine PE.imp (pe_revL he) fun σ H Q ⟨G, ρ, rep, fin⟩ => ⟨G, ρ, rep, fin_bind all_sub fin fun v d ρ1 H1 G1 rep1 st1 rm fin1 => ?_⟩
  cases e1 : listD d with
  | none => rw [e1] at fin1; exact fin1.elim
  | some ds =>
    rw [e1] at fin1
    obtain ⟨a, vs, rfl, h1, h2⟩ := root_list rep1.sub (show RM Γ .root H1 H1 G1 v d from rm) e1
    refine ⟨a, vs, rfl, by rw [← hK]; exact h1, fun p np => ?_⟩
    exact fin_ret (fin1.step st1) rep1 (Ext.newOwn rep1.sub np) ⟨p, _, rfl, np, upd_same, free_sub rep1.sub np, .lst h2.rev⟩
/-! ### a tuple backwards -/
def eRevT (f : E) : E := fun ρ => eBind (f ρ) fun d ρ1 => match d with
  | .tup ds => some (.ok (.tup ds.reverse) ρ1)
  | _ => none
theorem me_revT {k : Nat} {p1 p2 p3 : Pos} (he : PE X e (tE Γ cs ts W .root f)) (hK : Γ.K = X.K := by rfl) : PE X (.Subscript e (.Slice none none (some (.UnaryOp .USub (.Constant (.int 1) k p1) p2)) p3) pos) (tE Γ cs ts W .full (eRevT f)) := by
  refine PE.imp (Lk.pe_revT he) fun σ H Q ⟨G, ρ, rep, fin⟩ => ⟨G, ρ, rep, fin_bind all_sub fin fun v d ρ1 H1 G1 rep1 st1 rm fin1 => ?_⟩
  split at fin1
  · obtain ⟨a, vs, rfl, h0, h1, h2⟩ := root_tup rep1.sub (show RM Γ .root H1 H1 G1 v _ from rm)
    refine ⟨a, vs, rfl, by rw [← hK]; exact h1, fun p np => ?_⟩
    have ex : Ext H1 G1 (upd H1 p (.tup vs.reverse)) (upd G1 p (.tup vs.reverse)) := Ext.new rep1.sub np
    exact fin_ret (fin1.step st1) rep1 ex (Dt.tup SqT.in (h2.rev.same ex.st.g))
  · exact fin1.elim
/-! ### the number of binary digits -/
def bitsD : D → Option D
  | .int i => some (.int (Builtin.Int.intBits i : Nat))
  | _ => none
theorem so_bits : So1 Γ .full (fun x H Q => ∃ i, x = .int i ∧ Q (.int (Builtin.Int.intBits i : Nat)) H) bitsD := fun H G x a z Q s ha e q => by
  unfold bitsD at e
  split at e
  · cases e
    exact ⟨_, root_int ha, q _ H G (Ext.refl s) (.int _)⟩
  · cases e
theorem me_bits {apos : Pos} (ho : PE X o (tE Γ cs ts W .root f)) (hb : attributeBase o "bit_length" X.env (eval o X.env) = eval o X.env := by rfl) (hl : (apos.endLine == pos.line) = true := by rfl) : PE X (.Call (.Attribute o "bit_length" apos) [] [] pos) (tE Γ cs ts W .full (e1 bitsD f)) :=
  PE.imp (pe_bits ho hb hl) fun _ _ _ h => core1 so_bits (fun _ _ _ h => h) h
/-! ### functions of math -/
section
variable {x : Str} {p : Pos} {id : String} {r : List V → Hp → VK → Prop} {op : List D → Option D}
theorem me_callF (hc : CallR X (.builtin id) r) (so : SoA Γ m r op) (hg : Gl X x) (hm : X.mg x = some (.builtin id)) (ha : PA X (e :: es) (tA Γ cs ts W ks g)) (hk : ∀ k ∈ ks, k.nc = true := by decide) (hd : (x == ("__debug__" : Str)) = false := by decide)
    (he : starEach (e :: es) X.env = (false, eval e X.env) :: starEach es X.env := by rfl) (hpl : (backTo pos (starEach es X.env)).any (·.1) = false := by rfl) : PE X (.Call (.Name x p) (e :: es) [] pos) (tE Γ cs ts W m (eB op g)) :=
  PE.imp (pe_callBfun hc hg hm ha (hdb := hd) (he := he) (hpl := hpl)) fun _ _ _ h => coreB so hk h
end
def b_gcd : List D → Option D
  | [.int i, .int j] => some (.int (Nat.gcd i.natAbs j.natAbs : Nat))
  | _ => none
theorem so_gcd : SoA Γ .full rGcd b_gcd := fun H G xs ds z Q s rv e q => by
  unfold b_gcd at e
  split at e
  · cases e
    obtain ⟨v, v2, rfl, h, h2⟩ := rv2 rv
    cases root_int h
    cases root_int h2
    exact ⟨_, _, rfl, q _ H G (Ext.refl s) (.int _)⟩
  · cases e
def combC (i j : Int) : Prop := 0 ≤ i ∧ 0 ≤ j ∧ i ≤ 9000 ∧ j ≤ 9000
noncomputable instance (a b : Int) : Decidable (combC a b) := Classical.propDecidable _
noncomputable def b_comb : List D → Option D
  | [.int i, .int j] => if combC i j then some (.int (PySem.W.mcComb i j)) else none
  | _ => none
def rComb : List V → Hp → VK → Prop := fun xs H Q => ∃ i j : Int, xs = [.int i, .int j] ∧ combC i j ∧ Q (.int (PySem.W.mcComb i j)) H
theorem o_comb : CallR X (.builtin "math.comb") rComb := by
  intro pins s σ H xs us Q I r h
  obtain ⟨i, j, rfl, hc, q⟩ := h
  obtain ⟨t, u, rfl⟩ := Vals.int2 r
  exact PySem.W.mc_comb hc.1 hc.2.1 (Int.lt_of_le_of_lt hc.2.2.1 (by decide)) (.inl hc.2.2.2) fun _ => ⟨.int _, H, I.tok _, ⟨_, rfl⟩, q⟩
theorem so_comb : SoA Γ .full rComb b_comb := fun H G xs ds z Q s rv e q => by
  unfold b_comb at e
  split at e
  · split at e
    · rename_i hc
      cases e
      obtain ⟨v, v2, rfl, h, h2⟩ := rv2 rv
      cases root_int h
      cases root_int h2
      exact ⟨_, _, rfl, hc, q _ H G (Ext.refl s) (.int _)⟩
    · cases e
  · cases e
/-! ### tuple(..), str(..) -/
def b_tuple : List D → Option D
  | [.tup ds] => some (.tup ds)
  | [d] => (listD d).map .tup
  | _ => none
theorem o_tuple {K : PySem.W.Frag} (hK : X.K = K := by rfl) : CallR X (.type "tuple") (fun xs H Q => ∃ p ys, xs = [.ref p] ∧ ((SqL K H p ys ∧ ∀ l, H l = none → Q (.ref l) (upd H l (.tup ys))) ∨ (SqT K H p ys ∧ Q (.ref p) H))) := by
  subst hK
  exact call_tuple_of
theorem so_tuple : SoA Γ .full (fun xs H Q => ∃ p ys, xs = [.ref p] ∧ ((SqL Γ.K H p ys ∧ ∀ l, H l = none → Q (.ref l) (upd H l (.tup ys))) ∨ (SqT Γ.K H p ys ∧ Q (.ref p) H))) b_tuple := fun H G xs ds z Q s rv e q => by
  unfold b_tuple at e
  split at e
  · cases e
    obtain ⟨v, rfl, h⟩ := rv1 rv
    obtain ⟨a, vs, rfl, h0, h1, h2⟩ := root_tup s h
    exact ⟨a, vs, rfl, .inr ⟨h1, q _ H G (Ext.refl s) (Dt.tup h0 h2)⟩⟩
  · obtain ⟨es, e1, rfl⟩ := Option.map_eq_some_iff.mp e
    obtain ⟨v, rfl, h⟩ := rv1 rv
    obtain ⟨a, vs, rfl, h1, h2⟩ := root_list s h e1
    refine ⟨a, vs, rfl, .inl ⟨h1, fun l nl => ?_⟩⟩
    have ex : Ext H G (upd H l (.tup vs)) (upd G l (.tup vs)) := Ext.new s nl
    exact q _ _ _ ex (Dt.tup SqT.in (h2.same ex.st.g))
  · cases e
def b_str : List D → Option D
  | [.int i] => if i.natAbs.log2 < 1920 then some (.str (toString i)) else none
  | [.str x] => some (.str x)
  | _ => none
theorem o_str : CallR X (.type "str") (fun xs H Q => (∃ i, xs = [.int i] ∧ i.natAbs.log2 < 1920 ∧ Q (.str (toString i)) H) ∨ ∃ a, xs = [.str a] ∧ Q (.str a) H) := by
  intro pins s σ H xs us Q I r h
  rcases h with h | h
  · exact call_str_int pins s σ H xs us Q I r h
  · exact SkE.call_str_str pins s σ H xs us Q I r h
theorem so_str : SoA Γ .full (fun xs H Q => (∃ i, xs = [.int i] ∧ i.natAbs.log2 < 1920 ∧ Q (.str (toString i)) H) ∨ ∃ a, xs = [.str a] ∧ Q (.str a) H) b_str := fun H G xs ds z Q s rv e q => by
  unfold b_str at e
  split at e
  · split at e
    · rename_i hc
      cases e
      obtain ⟨v, rfl, h⟩ := rv1 rv
      cases root_int h
      exact .inl ⟨_, rfl, hc, q _ H G (Ext.refl s) (.str _)⟩
    · cases e
  · cases e
    obtain ⟨v, rfl, h⟩ := rv1 rv
    cases root_str h
    exact .inr ⟨_, rfl, q _ H G (Ext.refl s) (.str _)⟩
  · cases e
/-! ### methods of texts -/
def strsD : List D → Option (List Str)
  | [] => some []
  | .str i :: r => (strsD r).map (i :: ·)
  | _ => none
theorem strsD_eq : ∀ {ds : List D} {ns : List Str}, strsD ds = some ns → ds = ns.map .str
  | [], _, h => by cases h; rfl
  | d :: r, ns, h => by
    cases d with
    | str x =>
      unfold strsD at h
      obtain ⟨ms, h1, rfl⟩ := Option.map_eq_some_iff.mp h
      rw [strsD_eq h1]
      rfl
    | _ => cases h
theorem strsD_map : ∀ ns : List Str, strsD (ns.map .str) = some ns
  | [] => rfl
  | n :: ns => by
    show (strsD (ns.map .str)).map (n :: ·) = _
    rw [strsD_map ns]
    rfl
theorem Dts.strs : ∀ {v : List V} {ns : List Str}, Dts Γ H v (ns.map D.str) → v = ns.map V.str
  | _, [], h => by cases h; rfl
  | _, n :: ns, h => by
    cases h with
    | cons h r =>
      cases h
      rw [Dts.strs r]
      rfl
def joinC (a : Str) (ys : List Str) : Prop := (ys.map (·.length)).sum + ys.length * a.length ≤ 16777216
noncomputable instance (a : Str) (b : List Str) : Decidable (joinC a b) := Classical.propDecidable _
noncomputable def m_join : D → List D → Option D
  | .str a, [d] => ((listD d).bind strsD).bind fun ys => if joinC a ys then some (.str (Txt.join a ys)) else none
  | _, _ => none
def rJoin (K : PySem.W.Frag) : V → List V → Hp → VK → Prop := fun x xs H Q => ∃ a p, ∃ ys : List Str, x = .str a ∧ xs = [.ref p] ∧ (SqL K H p (ys.map V.str) ∨ SqT K H p (ys.map V.str)) ∧ (ys.map (·.length)).sum + ys.length * a.length ≤ 16777216 ∧ Q (.str (Txt.join a ys)) H
theorem o_join {K : PySem.W.Frag} (hK : X.K = K := by rfl) : MtR X "str.join" (rJoin K) := by
  subst hK
  exact mt_join
theorem so_join : SoT Γ .full (rJoin Γ.K) m_join := fun H G x xs ds z Q s rv e q => by
  unfold m_join at e
  split at e
  · rename_i a d h
    cases h
    obtain ⟨ys, e1, e2⟩ := Option.bind_eq_some_iff.mp e
    obtain ⟨es, e3, e4⟩ := Option.bind_eq_some_iff.mp e1
    split at e2
    · rename_i hc
      cases e2
      obtain ⟨v, rfl, h⟩ := rv1 rv
      obtain ⟨p, vs, rfl, h1, h2⟩ := root_list s h e3
      have e5 := strsD_eq e4
      subst e5
      have e6 := Dts.strs h2
      subst e6
      exact ⟨_, p, ys, rfl, rfl, .inl h1, hc, q _ H G (Ext.refl s) (.str _)⟩
    · cases e2
  · cases e
/-! ### sorted, of pairs of ints -/
def rSortP (K : PySem.W.Frag) : List V → Hp → VK → Prop := fun vs H Q => ∃ (l : Addr) (xs : List V) (kf : V → Int × Int), vs = [V.ref l] ∧ SqL K H l xs ∧ (∀ x ∈ xs, ∃ t, x = V.ref t ∧ SqT K H t [.int (kf x).1, .int (kf x).2]) ∧
  ∀ (ys : List V) (p : Addr), SrtO.Srtd (ltP kf) ys → ys.Perm xs → (∀ (t : Addr) (as bs : List V), SqT K H t as → SqT K H t bs → as = bs) → H p = none → Q (.ref p) (upd H p (.lst ys))
theorem o_sortP {K : PySem.W.Frag} (hK : X.K = K := by rfl) : CallR X (.builtin "sorted") (rSortP K) := by
  subst hK
  intro pins s σ H vs us Q I r hyp
  obtain ⟨l, xs, kf, rfl, hl, hx, q⟩ := hyp
  obtain ⟨its, rel, isl, few⟩ := I.list hl
  obtain ⟨u, rfl, ru⟩ := vals1 r
  have eu : u = Value.ref l := ru
  subst eu
  have hr := refs_back rel fun x m => (hx x m).imp fun t e => e.1
  obtain ⟨back, refs⟩ := hr
  refine SrtO.sorted_pairsO (k := fun z => kf (backV z)) isl.isList (rel.length ▸ few) (fun z hz => ?_) fun hp d out srt stb grew fresh ⟨n, hn⟩ => ?_
  · obtain ⟨t, rfl⟩ := refs z hz
    have inx : V.ref t ∈ xs := by
      rw [back]
      exact List.mem_map.mpr ⟨_, hz, rfl⟩
    obtain ⟨t2, e, ht⟩ := hx _ inx
    cases e
    obtain ⟨ws, rw2, pt, _⟩ := I.tuple ht
    obtain ⟨o, ho, hc, n, hd⟩ := pt
    obtain ⟨u1, u2, rfl, r1, r2⟩ := vals2 rw2
    obtain ⟨k1, rfl⟩ := r1
    obtain ⟨k2, rfl⟩ := r2
    exact ⟨t, o, k1, k2, n, rfl, ho, hc, hd⟩
  · have all : ∀ z ∈ out, ∃ b, z = Value.ref b := fun z hz => refs z (stb.perm.mem_iff.mp hz)
    have pm : (out.map backV).Perm xs := by
      rw [back]
      exact stb.perm.map backV
    have small : (out.map backV).length ≤ sizeLine := by
      rw [pm.length_eq]
      exact few
    exact ⟨.ref d, upd H d (.lst (out.map backV)), I.laid (t' := s.toks) grew fresh ⟨small, out, n, vals_back all, hn⟩, rfl, q _ d (SrtO.srtd_map srt) pm (fun _ _ _ h1 h2 => I.tuple_inj h1 h2) (I.hok.fresh fresh)⟩
abbrev prI (p : Int × Int) : D := .tup [.int p.1, .int p.2]
def pairsD : List D → Option (List (Int × Int))
  | [] => some []
  | .tup [.int a, .int b] :: r => (pairsD r).map ((a, b) :: ·)
  | _ => none
theorem pairsD_eq : ∀ {ds : List D} {ps : List (Int × Int)}, pairsD ds = some ps → ds = ps.map prI
  | [], _, h => by cases h; rfl
  | d :: r, ps, h => by
    unfold pairsD at h
    split at h
    · rename_i e; cases e
    · rename_i a b r' e
      cases e
      obtain ⟨ms, h1, rfl⟩ := Option.map_eq_some_iff.mp h
      rw [pairsD_eq h1]
      rfl
    · cases h
theorem pairsD_map : ∀ ps : List (Int × Int), pairsD (ps.map prI) = some ps
  | [] => rfl
  | p :: ps => by
    show (pairsD (ps.map prI)).map ((p.1, p.2) :: ·) = _
    rw [pairsD_map ps]
    rfl
def leP (p q : Int × Int) : Prop := p.1 < q.1 ∨ (p.1 = q.1 ∧ p.2 ≤ q.2)
instance (p q : Int × Int) : Decidable (leP p q) := inferInstanceAs (Decidable (_ ∨ _))
def insP (n : Int × Int) : List (Int × Int) → List (Int × Int)
  | [] => [n]
  | k :: ks => if leP n k then n :: k :: ks else k :: insP n ks
def psort : List (Int × Int) → List (Int × Int)
  | [] => []
  | n :: ns => insP n (psort ns)
theorem insP_perm (n : Int × Int) : ∀ ks, (insP n ks).Perm (n :: ks)
  | [] => .refl _
  | k :: ks => by
    unfold insP
    split
    · exact .refl _
    · exact ((insP_perm n ks).cons k).trans (.swap n k ks)
theorem psort_perm : ∀ ns, (psort ns).Perm ns
  | [] => .refl _
  | n :: ns => (insP_perm n _).trans ((psort_perm ns).cons n)
theorem insP_sorted (n : Int × Int) : ∀ {ks : List (Int × Int)}, ks.Pairwise leP → (insP n ks).Pairwise leP
  | [], _ => List.pairwise_singleton _ _
  | k :: ks, h => by
    unfold insP
    obtain ⟨h1, h2⟩ := List.pairwise_cons.mp h
    split
    · rename_i c
      refine List.pairwise_cons.mpr ⟨fun y hy => ?_, h⟩
      rcases List.mem_cons.mp hy with rfl | hy
      · exact c
      · have := h1 y hy
        unfold leP at *
        omega
    · rename_i c
      refine List.pairwise_cons.mpr ⟨fun y hy => ?_, insP_sorted n h2⟩
      rcases List.mem_cons.mp ((insP_perm n ks).mem_iff.mp hy) with rfl | hy
      · unfold leP at *; omega
      · exact h1 y hy
theorem psort_sorted : ∀ ns, (psort ns).Pairwise leP
  | [] => .nil
  | n :: ns => insP_sorted n (psort_sorted ns)
theorem pairs_uniq : ∀ {as bs : List (Int × Int)}, as.Perm bs → as.Pairwise leP → bs.Pairwise leP → as = bs
  | [], bs, p, _, _ => (List.nil_perm.mp p).symm ▸ rfl
  | a :: as, [], p, _, _ => by have := p.length_eq; simp at this
  | a :: as, b :: bs, p, h1, h2 => by
    obtain ⟨q1, q2⟩ := List.pairwise_cons.mp h1
    obtain ⟨q3, q4⟩ := List.pairwise_cons.mp h2
    have hab : a = b := by
      have m1 : a ∈ b :: bs := p.mem_iff.mp List.mem_cons_self
      have m2 : b ∈ a :: as := p.mem_iff.mpr List.mem_cons_self
      rcases List.mem_cons.mp m1 with e | m1
      · exact e
      · rcases List.mem_cons.mp m2 with e | m2
        · exact e.symm
        · have c1 := q1 b m2
          have c2 := q3 a m1
          unfold leP at c1 c2
          exact Prod.ext (by omega) (by omega)
    subst hab
    rw [pairs_uniq (List.Perm.cons_inv p) q2 q4]
theorem psort_self {ps : List (Int × Int)} (h : ps.Pairwise leP) : psort ps = ps := pairs_uniq (psort_perm ps) (psort_sorted ps) h
def b_sortedP : List D → Option D
  | [d] => ((listD d).bind pairsD).map fun ps => .lst ((psort ps).map prI)
  | _ => none
theorem Dts.pairs : ∀ {vs : List V} {ps : List (Int × Int)}, Dts Γ H vs (ps.map prI) → ∀ x ∈ vs, ∃ t p, x = V.ref t ∧ p ∈ ps ∧ SqT Γ.K H t [.int p.1, .int p.2]
  | _, [], h, x, hx => by cases h; cases hx
  | _, p :: ps, h, x, hx => by
    cases h with
    | cons h r =>
      rcases List.mem_cons.mp hx with e | hx
      · subst e
        cases h with
        | tup h2 r2 =>
          cases r2 with
          | cons a1 r3 =>
            cases a1
            cases r3 with
            | cons a2 r4 =>
              cases a2
              cases r4
              exact ⟨_, p, rfl, List.mem_cons_self, h2⟩
      · obtain ⟨t, p', e, hp, hs⟩ := Dts.pairs r x hx
        exact ⟨t, p', e, List.mem_cons_of_mem _ hp, hs⟩
theorem so_sortP : SoA Γ .own (rSortP Γ.K) b_sortedP := fun H G xs ds z Q s rv e q => by
  classical
  unfold b_sortedP at e
  split at e
  · obtain ⟨ps, e1, rfl⟩ := Option.map_eq_some_iff.mp e
    obtain ⟨es, e2, e3⟩ := Option.bind_eq_some_iff.mp e1
    obtain ⟨v, rfl, h⟩ := rv1 rv
    obtain ⟨a, vs, rfl, h1, h2⟩ := root_list s h e2
    have e4 := pairsD_eq e3
    subst e4
    let kf : V → Int × Int := fun x => if c : ∃ p : Int × Int, ∃ t, x = V.ref t ∧ SqT Γ.K H t [.int p.1, .int p.2] then Classical.choose c else (0, 0)
    have kfs : ∀ x, (∃ p : Int × Int, ∃ t, x = V.ref t ∧ SqT Γ.K H t [.int p.1, .int p.2]) → ∃ t, x = V.ref t ∧ SqT Γ.K H t [.int (kf x).1, .int (kf x).2] := fun x c => by
      have e5 : kf x = Classical.choose c := dif_pos c
      rw [e5]
      exact Classical.choose_spec c
    have tup : ∀ x ∈ vs, ∃ t p, x = V.ref t ∧ p ∈ ps ∧ SqT Γ.K G t [.int p.1, .int p.2] := h2.pairs
    refine ⟨a, vs, kf, rfl, h1, fun x hx => ?_, fun ys p srt pm inj np => ?_⟩
    · obtain ⟨t, p, e5, _, hs⟩ := tup x hx
      exact kfs x ⟨p, t, e5, Same.sqT s hs⟩
    · -- each value's pair
      have one : ∀ {us : List V} {qs : List (Int × Int)}, Dts Γ G us (qs.map prI) → qs = us.map kf := by
        intro us
        induction us with
        | nil => intro qs d; cases qs with
          | nil => rfl
          | cons q qs => cases d
        | cons u us ih =>
          intro qs d
          cases qs with
          | nil => cases d
          | cons q qs =>
            obtain ⟨t, p', e5, hp, hs⟩ := d.pairs u List.mem_cons_self
            cases d with
            | cons d1 d2 =>
              have hq : SqT Γ.K G t [.int q.1, .int q.2] := by
                subst e5
                cases d1 with
                | tup g1 r2 =>
                  cases r2 with
                  | cons a1 r3 =>
                    cases a1
                    cases r3 with
                    | cons a2 r4 =>
                      cases a2
                      cases r4
                      exact g1
              obtain ⟨t', e6, hk⟩ := kfs u ⟨q, t, e5, Same.sqT s hq⟩
              rw [e5] at e6
              cases e6
              have e7 := inj _ _ _ (Same.sqT s hq) hk
              simp only [List.cons.injEq, V.int.injEq, and_true] at e7
              rw [List.map_cons, ← ih d2, show kf u = q from (Prod.ext e7.1 e7.2).symm]
      have dys : Dts Γ G ys ((ys.map kf).map prI) := by
        have mem : ∀ y ∈ ys, Dt Γ G y (prI (kf y)) := fun y hy => by
          have hv := pm.mem_iff.mp hy
          obtain ⟨i, hi⟩ := List.getElem?_of_mem hv
          obtain ⟨d, hd, hdt⟩ := h2.getV hi
          rw [one h2, List.map_map, List.getElem?_map, hi] at hd
          cases hd
          exact hdt
        clear srt pm
        induction ys with
        | nil => exact .nil
        | cons y ys ih => exact .cons (mem y List.mem_cons_self) (ih fun y' hy' => mem y' (List.mem_cons_of_mem _ hy'))
      have e8 : ys.map kf = psort ps := by
        refine pairs_uniq ((pm.map kf).trans (by rw [one h2] at *; exact (psort_perm _).symm)) ?_ (psort_sorted ps)
        rw [List.pairwise_map]
        refine List.Pairwise.imp (fun {x y} hxy => ?_) srt
        have := SrtO.lexB_no.mp hxy
        unfold leP
        omega
      rw [e8] at dys
      exact q _ _ G (Ext.newOwn s np) ⟨p, _, rfl, np, upd_same, free_sub s np, .lst dys⟩
  · cases e
end
end Mi

namespace Mi
open PySem PySem.Spec L2 Lk
/-! ### running the mirror: what is left of the run is a proposition -/
abbrev PE1 := D → Env → Prop
/-- what simp leaves alone -/
class Still {α : Sort u} (a : α) : Type where
instance {α : Sort u} {a : α} : Still a := ⟨⟩
@[irreducible] def OkE (r : Option R) (Q X : PE1) [Still Q] [Still X] : Prop := match r with
  | none => False
  | some (.ok d ρ) => Q d ρ
  | some (.ex x ρ) => X x ρ
@[irreducible] def OkA (r : Option RA) (Q : List D → Env → Prop) (X : PE1) [Still Q] [Still X] : Prop := match r with
  | none => False
  | some (.ok d ρ) => Q d ρ
  | some (.ex x ρ) => X x ρ
@[irreducible] def OkF (r : Option RF) (Q X : D → List D → Prop) [Still Q] [Still X] : Prop := match r with
  | none => False
  | some (.ok d ρ) => Q d ρ
  | some (.ex x ρ) => X x ρ
@[irreducible] def OkS (r : Option Out) (Q : Out → Prop) [Still Q] : Prop := match r with
  | none => False
  | some o => Q o
@[irreducible] def OkD (r : Option D) (Q : D → Prop) [Still Q] : Prop := match r with
  | none => False
  | some o => Q o
@[irreducible] def OkN (r : Option Env) (Q : Env → Prop) [Still Q] : Prop := match r with
  | none => False
  | some o => Q o
@[irreducible] def OkL (r : Option (List D)) (Q : List D → Prop) [Still Q] : Prop := match r with
  | none => False
  | some o => Q o
@[irreducible] def OkG (r : Option (Option D)) (Q : D → Prop) [Still Q] : Prop := match r with
  | some (some o) => Q o
  | _ => False
variable {Q X : PE1} {QA : List D → Env → Prop} {QF XF : D → List D → Prop} {QS : Out → Prop} {QD : D → Prop} {QN : Env → Prop} {QL : List D → Prop} {ρ : Env} {f g h k : E} {a b : EA} {F K : SM} {d : D} {ds : List D} {i j : Nat} {c : Bool} {P P' : Prop}
theorem okE_ext {r : Option R} {Q Q' X : PE1} (h : ∀ d ρ, Q d ρ = Q' d ρ) : OkE r Q X = OkE r Q' X := by
  have e : Q = Q' := funext fun d => funext fun ρ => h d ρ
  subst e
  rfl
theorem okA_ext {r : Option RA} {Q Q' : List D → Env → Prop} {X : PE1} (h : ∀ d ρ, Q d ρ = Q' d ρ) : OkA r Q X = OkA r Q' X := by
  have e : Q = Q' := funext fun d => funext fun ρ => h d ρ
  subst e
  rfl
theorem okE_ok : OkE (some (.ok d ρ)) Q X = Q d ρ := by with_unfolding_all rfl
theorem okE_ex : OkE (some (.ex d ρ)) Q X = X d ρ := by with_unfolding_all rfl
theorem okA_ok : OkA (some (.ok ds ρ)) QA X = QA ds ρ := by with_unfolding_all rfl
theorem okA_ex : OkA (some (.ex d ρ)) QA X = X d ρ := by with_unfolding_all rfl
theorem okS_some {o : Out} : OkS (some o) QS = QS o := by with_unfolding_all rfl
theorem okD_some : OkD (some d) QD = QD d := by with_unfolding_all rfl
theorem okN_some : OkN (some ρ) QN = QN ρ := by with_unfolding_all rfl
theorem okL_some : OkL (some ds) QL = QL ds := by with_unfolding_all rfl
theorem okG_some : OkG (some (some d)) QD = QD d := by with_unfolding_all rfl
theorem okE_bind {r : Option R} {k : D → Env → Option R} : OkE (eBind r k) Q X = OkE r (fun d ρ => OkE (k d ρ) Q X) X := by
  rcases r with _ | ⟨d1, ρ1⟩ | ⟨x, ρ1⟩ <;> with_unfolding_all rfl
theorem okE_aBind {r : Option RA} {k : List D → Env → Option R} : OkE (aBind r k) Q X = OkA r (fun d ρ => OkE (k d ρ) Q X) X := by
  rcases r with _ | ⟨d1, ρ1⟩ | ⟨x, ρ1⟩ <;> with_unfolding_all rfl
theorem okS_bind {r : Option R} {k : D → Env → Option Out} : OkS (sBind r k) QS = OkE r (fun d ρ => OkS (k d ρ) QS) fun x ρ => QS (.ex x ρ) := by
  rcases r with _ | ⟨d1, ρ1⟩ | ⟨x, ρ1⟩ <;> with_unfolding_all rfl
theorem okS_aBind {r : Option RA} {k : List D → Env → Option Out} : OkS (saBind r k) QS = OkA r (fun d ρ => OkS (k d ρ) QS) fun x ρ => QS (.ex x ρ) := by
  rcases r with _ | ⟨d1, ρ1⟩ | ⟨x, ρ1⟩ <;> with_unfolding_all rfl
theorem okE_lift {r : Option D} : OkE (lift r ρ) Q X = OkD r fun d => Q d ρ := by cases r <;> with_unfolding_all rfl
theorem okE_V : OkE (eV i ρ) Q X = OkG ρ[i]? fun d => Q d ρ := by
  unfold eV
  rcases ρ[i]? with _ | _ | d <;> with_unfolding_all rfl
theorem okE_C : OkE (eC d ρ) Q X = Q d ρ := by with_unfolding_all rfl
theorem okE_1 {op : D → Option D} : OkE (e1 op f ρ) Q X = OkE (f ρ) (fun x ρ1 => OkD (op x) fun d => Q d ρ1) X := by
  unfold e1; rw [okE_bind]; refine okE_ext fun _ _ => ?_; rw [okE_lift]
theorem okE_2 {op : D → D → Option D} : OkE (e2 op f g ρ) Q X = OkE (f ρ) (fun x ρ1 => OkE (g ρ1) (fun y ρ2 => OkD (op x y) fun d => Q d ρ2) X) X := by
  unfold e2; rw [okE_bind]; refine okE_ext fun _ _ => ?_; rw [okE_bind]; refine okE_ext fun _ _ => ?_; rw [okE_lift]
theorem okA_nil : OkA (aNil ρ) QA X = QA [] ρ := by with_unfolding_all rfl
theorem okA_cons : OkA (aCons f a ρ) QA X = OkE (f ρ) (fun d ρ1 => OkA (a ρ1) (fun ds ρ2 => QA (d :: ds) ρ2) X) X := by
  unfold aCons
  rcases f ρ with _ | ⟨d1, ρ1⟩ | ⟨x, ρ1⟩
  · with_unfolding_all rfl
  · rw [okE_ok]; show OkA (match a ρ1 with
      | some (.ok ds ρ2) => some (.ok (d1 :: ds) ρ2)
      | r => r) QA X = OkA (a ρ1) (fun ds ρ2 => QA (d1 :: ds) ρ2) X
    rcases a ρ1 with _ | ⟨d2, ρ2⟩ | ⟨x, ρ2⟩ <;> with_unfolding_all rfl
  · with_unfolding_all rfl
theorem okE_B {op : List D → Option D} : OkE (eB op a ρ) Q X = OkA (a ρ) (fun ds ρ1 => OkD (op ds) fun d => Q d ρ1) X := by
  unfold eB; rw [okE_aBind]; refine okA_ext fun _ _ => ?_; rw [okE_lift]
theorem okE_Tup : OkE (eTup a ρ) Q X = OkA (a ρ) (fun ds ρ1 => Q (.tup ds) ρ1) X := by
  unfold eTup; rw [okE_aBind]; refine okA_ext fun _ _ => ?_; rw [okE_ok]
theorem okE_Lst : OkE (eLst a ρ) Q X = OkA (a ρ) (fun ds ρ1 => Q (.lst ds) ρ1) X := by
  unfold eLst; rw [okE_aBind]; refine okA_ext fun _ _ => ?_; rw [okE_ok]
/-- what goes on after a test -/
def tE2 (d : D) (P P' : Prop) [Still P] [Still P'] : Prop := match d with
  | .bl true => P
  | .bl false => P'
  | _ => False
theorem tE2_bl : tE2 (.bl c) P P' = if c = true then P else P' := by cases c <;> simp [tE2]
theorem okE_If : OkE (eIf f g h ρ) Q X = OkE (f ρ) (fun d ρ1 => tE2 d (OkE (g ρ1) Q X) (OkE (h ρ1) Q X)) X := by
  unfold eIf; rw [okE_bind]
  first | refine okE_ext fun d ρ1 => ?_ | refine okA_ext fun d ρ1 => ?_
  rcases d with _ | (_ | _) | _ | _ | _ | _ | _ | _ | _ | _ | _ | _ | _ <;> with_unfolding_all rfl
theorem okE_And : OkE (eAnd f g ρ) Q X = OkE (f ρ) (fun d ρ1 => tE2 d (OkE (g ρ1) Q X) (Q (.bl false) ρ1)) X := by
  unfold eAnd; rw [okE_bind]
  first | refine okE_ext fun d ρ1 => ?_ | refine okA_ext fun d ρ1 => ?_
  rcases d with _ | (_ | _) | _ | _ | _ | _ | _ | _ | _ | _ | _ | _ | _ <;> with_unfolding_all rfl
theorem okE_Or : OkE (eOr f g ρ) Q X = OkE (f ρ) (fun d ρ1 => tE2 d (Q (.bl true) ρ1) (OkE (g ρ1) Q X)) X := by
  unfold eOr; rw [okE_bind]
  first | refine okE_ext fun d ρ1 => ?_ | refine okA_ext fun d ρ1 => ?_
  rcases d with _ | (_ | _) | _ | _ | _ | _ | _ | _ | _ | _ | _ | _ | _ <;> with_unfolding_all rfl
def nE (d : D) (QD : D → Prop) [Still QD] : Prop := match d with
  | .bl c => QD (.bl !c)
  | _ => False
theorem nE_bl : nE (.bl c) QD = QD (.bl !c) := by with_unfolding_all rfl
theorem okE_Not : OkE (eNot f ρ) Q X = OkE (f ρ) (fun d ρ1 => nE d fun d => Q d ρ1) X := by
  unfold eNot; rw [okE_bind]
  first | refine okE_ext fun d ρ1 => ?_ | refine okA_ext fun d ρ1 => ?_
  rcases d with _ | (_ | _) | _ | _ | _ | _ | _ | _ | _ | _ | _ | _ | _ <;> with_unfolding_all rfl
def OkB (r : Option Bool) (Q : Bool → Prop) [Still Q] : Prop := match r with
  | none => False
  | some o => Q o
theorem okB_some {P : Bool → Prop} : OkB (some c) P = P c := by with_unfolding_all rfl
theorem okE_Tru : OkE (eTru f ρ) Q X = OkE (f ρ) (fun d ρ1 => OkB (truD d) fun c => Q (.bl c) ρ1) X := by
  unfold eTru; rw [okE_bind]
  first | refine okE_ext fun d ρ1 => ?_ | refine okA_ext fun d ρ1 => ?_
  cases truD d <;> with_unfolding_all rfl
def cE (d : Option D) (P P' : Prop) [Still P] [Still P'] : Prop := match d with
  | some (.bl true) => P
  | some (.bl false) => P'
  | _ => False
theorem cE_bl : cE (some (.bl c)) P P' = if c = true then P else P' := by cases c <;> simp [cE]
theorem okE_Chain {op op' : D → D → Option D} : OkE (eChain op op' f g h ρ) Q X = OkE (f ρ) (fun a ρ1 => OkE (g ρ1) (fun b ρ2 => cE (op a b) (OkE (h ρ2) (fun c ρ3 => OkD (op' b c) fun d => Q d ρ3) X) (Q (.bl false) ρ2)) X) X := by
  unfold eChain; rw [okE_bind]
  first | refine okE_ext fun d ρ1 => ?_ | refine okA_ext fun d ρ1 => ?_
  rw [okE_bind]
  first | refine okE_ext fun d2 ρ2 => ?_ | refine okA_ext fun d2 ρ2 => ?_
  rcases op d d2 with _ | (_ | (_ | _) | _ | _ | _ | _ | _ | _ | _ | _ | _ | _ | _) <;> first | with_unfolding_all rfl | (unfold cE; rw [okE_bind]; refine okE_ext fun _ _ => ?_; rw [okE_lift])
theorem okE_Chain3 {op op' op'' : D → D → Option D} : OkE (eChain3 op op' op'' f g h k ρ) Q X = OkE (f ρ) (fun a ρ1 => OkE (g ρ1) (fun b ρ2 => cE (op a b) (OkE (h ρ2) (fun c ρ3 => cE (op' b c) (OkE (k ρ3) (fun d ρ4 => OkD (op'' c d) fun d => Q d ρ4) X) (Q (.bl false) ρ3)) X) (Q (.bl false) ρ2)) X) X := by
  unfold eChain3; rw [okE_bind]
  first | refine okE_ext fun d ρ1 => ?_ | refine okA_ext fun d ρ1 => ?_
  rw [okE_bind]
  first | refine okE_ext fun d2 ρ2 => ?_ | refine okA_ext fun d2 ρ2 => ?_
  rcases op d d2 with _ | (_ | (_ | _) | _ | _ | _ | _ | _ | _ | _ | _ | _ | _ | _) <;> first | with_unfolding_all rfl | skip
  simp only [cE]
  rw [okE_bind]
  first | refine okE_ext fun d3 ρ3 => ?_ | refine okA_ext fun d3 ρ3 => ?_
  rcases op' d2 d3 with _ | (_ | (_ | _) | _ | _ | _ | _ | _ | _ | _ | _ | _ | _ | _) <;> first | with_unfolding_all rfl | ((show OkE (eBind (k ρ3) fun d ρ4 => lift (op'' d3 d) ρ4) Q X = OkE (k ρ3) (fun d ρ4 => OkD (op'' d3 d) fun d => Q d ρ4) X); rw [okE_bind]; refine okE_ext fun _ _ => ?_; rw [okE_lift])
/-! calls -/
theorem okE_callR {ks : List Kd} {r : Option RF} : OkE (callR ks r ρ) Q X = OkF r (fun d ds => Q d (putC ks ds ρ)) fun x ds => X x (putC ks ds ρ) := by
  rcases r with _ | ⟨d, ds⟩ | ⟨x, ds⟩ <;> with_unfolding_all rfl
theorem okE_Call {Fn : FnD} {ks : List Kd} : OkE (eCall Fn ks a ρ) Q X = OkA (a ρ) (fun ds ρ1 => OkF (Fn (argD ks ds ρ1)) (fun d ds => Q d (putC ks ds ρ1)) fun x ds => X x (putC ks ds ρ1)) X := by
  unfold eCall; rw [okE_aBind]; refine okA_ext fun _ _ => ?_; rw [okE_callR]
def OkI (d : D) (n : String) (P : List (Str × D) → Prop) [Still n] [Still P] : Prop := match d with
  | .ins n' fs => n' = n ∧ P fs
  | _ => False
theorem okI_ins {n n' : String} {fs : List (Str × D)} {P : List (Str × D) → Prop} : OkI (.ins n' fs) n P = (n' = n ∧ P fs) := by with_unfolding_all rfl
theorem okE_Prop {n : String} {Fn : FnD} : OkE (eProp n Fn f ρ) Q X = OkE (f ρ) (fun d ρ1 => OkI d n fun _ => OkF (Fn [d]) (fun d ds => Q d (putC [.full] ds ρ1)) fun x ds => X x (putC [.full] ds ρ1)) X := by
  unfold eProp; rw [okE_bind]
  first | refine okE_ext fun d ρ1 => ?_ | refine okA_ext fun d ρ1 => ?_
  cases d <;> try with_unfolding_all rfl
  rename_i n' fs
  simp only [okI_ins]
  by_cases e : n' = n
  · rw [if_pos e, okE_callR]; simp only [e, true_and]
  · rw [if_neg e]; simp only [e, false_and]; with_unfolding_all rfl
theorem okE_Meth {n : String} {nm : Str} {Fn : FnD} {ks : List Kd} : OkE (eMeth n nm Fn ks f a ρ) Q X = OkE (f ρ) (fun d ρ1 => OkI d n fun fs => fs.lookup nm = none ∧ OkA (a ρ1) (fun ds ρ2 => OkF (Fn (argD (.full :: ks) (d :: ds) ρ2)) (fun d ds => Q d (putC (.full :: ks) ds ρ2)) fun x ds => X x (putC (.full :: ks) ds ρ2)) X) X := by
  unfold eMeth; rw [okE_bind]
  first | refine okE_ext fun d ρ1 => ?_ | refine okA_ext fun d ρ1 => ?_
  cases d <;> try with_unfolding_all rfl
  rename_i n' fs
  simp only [okI_ins]
  by_cases e : n' = n ∧ fs.lookup nm = none
  · rw [if_pos e, okE_aBind]; simp only [e, true_and]; refine okA_ext fun _ _ => ?_; rw [okE_callR]
  · rw [if_neg e, ← and_assoc]; simp only [e, false_and]; with_unfolding_all rfl
@[irreducible] def OkM (r : Option RF) (QD : D → Prop) (X : D → Prop) [Still QD] [Still X] : Prop := match r with
  | some (.ok .non (d :: _)) => QD d
  | some (.ex x _) => X x
  | _ => False
theorem okE_Make {n : String} {Fn : FnD} : OkE (eMake n Fn a ρ) Q X = OkA (a ρ) (fun ds ρ1 => OkM (Fn (.ins n [] :: ds)) (fun d => Q d ρ1) fun x => X x ρ1) X := by
  unfold eMake; rw [okE_aBind]
  first | refine okE_ext fun ds ρ1 => ?_ | refine okA_ext fun ds ρ1 => ?_
  rcases Fn (.ins n [] :: ds) with _ | ⟨d, _ | ⟨d1, ds'⟩⟩ | ⟨x, ds⟩ <;> first | with_unfolding_all rfl | (cases d <;> with_unfolding_all rfl)
theorem okM_of {r : Option RF} {QD X : D → Prop} (h : OkF r (fun d ds => d = .non ∧ ∃ d1 dt, ds = d1 :: dt ∧ QD d1) fun x _ => X x) : OkM r QD X := by
  unfold OkF at h; unfold OkM
  rcases r with _ | ⟨d, ds⟩ | ⟨x, ds⟩
  · exact h
  · obtain ⟨rfl, d1, dt, rfl, q⟩ := h; exact q
  · exact h
def OkFs (d : D) (ns : List String) (nm : Str) (QD : D → Prop) [Still ns] [Still nm] [Still QD] : Prop := match d with
  | .ins n fs => n ∈ ns ∧ OkD (fs.lookup nm) QD
  | _ => False
theorem okFs_ins {n : String} {ns : List String} {nm : Str} {fs : List (Str × D)} : OkFs (.ins n fs) ns nm QD = (n ∈ ns ∧ OkD (fs.lookup nm) QD) := by with_unfolding_all rfl
theorem okE_Fld {ns : List String} {nm : Str} : OkE (eFld ns nm f ρ) Q X = OkE (f ρ) (fun d ρ1 => OkFs d ns nm fun d => Q d ρ1) X := by
  unfold eFld; rw [okE_bind]
  first | refine okE_ext fun d ρ1 => ?_ | refine okA_ext fun d ρ1 => ?_
  cases d <;> try with_unfolding_all rfl
  rename_i n fs
  simp only [okFs_ins]
  by_cases e : n ∈ ns
  · rw [if_pos e, okE_lift]; simp only [e, true_and]
  · rw [if_neg e]; simp only [e, false_and]; with_unfolding_all rfl
def OkT (d : D) (P : Prop) [Still P] : Prop := match d with
  | .str _ => P
  | _ => False
theorem okT_str {z : Str} : OkT (.str z) P = P := by with_unfolding_all rfl
theorem okE_Txt {op : D → List D → Option D} : OkE (eTxt op f a ρ) Q X = OkE (f ρ) (fun d ρ1 => OkT d (OkA (a ρ1) (fun ds ρ2 => OkD (op d ds) fun d => Q d ρ2) X)) X := by
  unfold eTxt; rw [okE_bind]
  first | refine okE_ext fun d ρ1 => ?_ | refine okA_ext fun d ρ1 => ?_
  cases d <;> first | with_unfolding_all rfl | (simp only [okT_str, okE_aBind]; refine okA_ext fun _ _ => ?_; rw [okE_lift])
theorem okE_Cel : OkE (eCel i ρ) Q X = OkG ρ[i]? fun _ => Q .non ρ := by
  unfold eCel
  rcases ρ[i]? with _ | _ | d <;> with_unfolding_all rfl
def OkRS (d : D) (QD : D → Prop) [Still QD] : Prop := match d with
  | .str z => z.length ≤ sizeLine ∧ QD (.str ⟨z.cps.reverse⟩)
  | _ => False
theorem okRS_str {z : Str} : OkRS (.str z) QD = (z.length ≤ sizeLine ∧ QD (.str ⟨z.cps.reverse⟩)) := by with_unfolding_all rfl
theorem okE_RevS : OkE (eRevS f ρ) Q X = OkE (f ρ) (fun d ρ1 => OkRS d fun d => Q d ρ1) X := by
  unfold eRevS; rw [okE_bind]
  first | refine okE_ext fun d ρ1 => ?_ | refine okA_ext fun d ρ1 => ?_
  cases d <;> try with_unfolding_all rfl
  rename_i z
  simp only [okRS_str]
  split
  · rename_i e; simp only [e, true_and]; with_unfolding_all rfl
  · rename_i e; simp only [e, false_and]; with_unfolding_all rfl
def OkSl (d l h : D) (op : D → Option Int → Option Int → Option D) (QD : D → Prop) [Still op] [Still QD] : Prop := match bdI l, bdI h with
  | some i, some j => OkD (op d i j) QD
  | _, _ => False
theorem okSl_nn {op : D → Option Int → Option Int → Option D} : OkSl d .non .non op QD = OkD (op d none none) QD := by with_unfolding_all rfl
theorem okSl_in {op : D → Option Int → Option Int → Option D} {i : Int} : OkSl d (.int i) .non op QD = OkD (op d (some i) none) QD := by with_unfolding_all rfl
theorem okSl_ni {op : D → Option Int → Option Int → Option D} {i : Int} : OkSl d .non (.int i) op QD = OkD (op d none (some i)) QD := by with_unfolding_all rfl
theorem okSl_ii {op : D → Option Int → Option Int → Option D} {i j : Int} : OkSl d (.int i) (.int j) op QD = OkD (op d (some i) (some j)) QD := by with_unfolding_all rfl
theorem okE_Sl {op : D → Option Int → Option Int → Option D} : OkE (eSl op f g h ρ) Q X = OkE (f ρ) (fun d ρ1 => OkE (g ρ1) (fun l ρ2 => OkE (h ρ2) (fun r ρ3 => OkSl d l r op fun d => Q d ρ3) X) X) X := by
  unfold eSl; rw [okE_bind]
  first | refine okE_ext fun d ρ1 => ?_ | refine okA_ext fun d ρ1 => ?_
  rw [okE_bind]
  first | refine okE_ext fun l ρ2 => ?_ | refine okA_ext fun l ρ2 => ?_
  rw [okE_bind]
  first | refine okE_ext fun r ρ3 => ?_ | refine okA_ext fun r ρ3 => ?_
  unfold OkSl
  cases bdI l <;> cases bdI r <;> first | with_unfolding_all rfl | (simp only [okE_lift])
theorem okE_No : OkE (eNo ρ) Q X = Q .non ρ := by with_unfolding_all rfl
def OkBd (d : D) (QD : D → Prop) [Still QD] : Prop := match d with
  | .int i => QD (.int i)
  | _ => False
theorem okBd_int {i : Int} : OkBd (.int i) QD = QD (.int i) := by with_unfolding_all rfl
theorem okE_Bd : OkE (eBd f ρ) Q X = OkE (f ρ) (fun d ρ1 => OkBd d fun d => Q d ρ1) X := by
  unfold eBd; rw [okE_bind]
  first | refine okE_ext fun d ρ1 => ?_ | refine okA_ext fun d ρ1 => ?_
  cases d <;> with_unfolding_all rfl
theorem okE_RevL : OkE (eRevL f ρ) Q X = OkE (f ρ) (fun d ρ1 => OkL (listD d) fun ds => Q (.lst ds.reverse) ρ1) X := by
  unfold eRevL; rw [okE_bind]
  refine okE_ext fun d ρ1 => ?_
  cases listD d <;> with_unfolding_all rfl
def tupRev : D → Option D
  | .tup ds => some (.tup ds.reverse)
  | _ => none
theorem tupRev_tup {ds : List D} : tupRev (.tup ds) = some (.tup ds.reverse) := by with_unfolding_all rfl
theorem rev_two {α : Type} {a b : α} : [a, b].reverse = [b, a] := rfl
theorem okE_RevT : OkE (eRevT f ρ) Q X = OkE (f ρ) (fun d ρ1 => OkD (tupRev d) fun d' => Q d' ρ1) X := by
  unfold eRevT; rw [okE_bind]
  refine okE_ext fun d ρ1 => ?_
  cases d <;> with_unfolding_all rfl
/-! items -/
theorem okE_iL : OkE (iL f ρ) Q X = OkE (f ρ) (fun d ρ1 => OkL (listD d) fun ds => Q (.lst ds) ρ1) X := by
  unfold iL; rw [okE_bind]
  first | refine okE_ext fun d ρ1 => ?_ | refine okA_ext fun d ρ1 => ?_
  cases listD d <;> with_unfolding_all rfl
def tupD : D → Option (List D)
  | .tup ds => some ds
  | _ => none
theorem okE_iT : OkE (iT f ρ) Q X = OkE (f ρ) (fun d ρ1 => OkL (tupD d) fun ds => Q (.lst ds) ρ1) X := by
  unfold iT; rw [okE_bind]
  first | refine okE_ext fun d ρ1 => ?_ | refine okA_ext fun d ρ1 => ?_
  cases d <;> with_unfolding_all rfl
def strD : D → Option (List D)
  | .str z => some (chrL z)
  | _ => none
theorem okE_iS : OkE (iS f ρ) Q X = OkE (f ρ) (fun d ρ1 => OkL (strD d) fun ds => Q (.lst ds) ρ1) X := by
  unfold iS; rw [okE_bind]
  first | refine okE_ext fun d ρ1 => ?_ | refine okA_ext fun d ρ1 => ?_
  cases d <;> with_unfolding_all rfl
theorem okE_iA {k : List D → Option (List D)} : OkE (iA k a ρ) Q X = OkA (a ρ) (fun ds ρ1 => OkL (k ds) fun ds => Q (.lst ds) ρ1) X := by
  unfold iA; rw [okE_aBind]
  first | refine okE_ext fun ds ρ1 => ?_ | refine okA_ext fun ds ρ1 => ?_
  cases k ds <;> with_unfolding_all rfl
def OkC (d : D) (P : List D → Prop) [Still P] : Prop := match d with
  | .lst ds => P ds
  | _ => False
theorem okC_lst {P : List D → Prop} : OkC (.lst ds) P = P ds := by with_unfolding_all rfl
theorem okE_Comp {vs : List Nat} {t : Tg} {cc : Option E} : OkE (eComp vs t cc f g ρ) Q X = OkE (g ρ) (fun d ρ1 => OkC d fun is => OkE (compF vs t cc f is [] ρ1) Q X) X := by
  unfold eComp; rw [okE_bind]
  first | refine okE_ext fun d ρ1 => ?_ | refine okA_ext fun d ρ1 => ?_
  cases d <;> with_unfolding_all rfl
def OkMu (r : Option (D × List D)) (P : D → List D → Prop) [Still P] : Prop := match r with
  | some (z, l) => P z l
  | none => False
theorem okMu_some {P : D → List D → Prop} {z : D} : OkMu (some (z, ds)) P = P z ds := by with_unfolding_all rfl
theorem okE_Mut {op : List D → List D → Option (D × List D)} : OkE (eMut i op a ρ) Q X = OkG ρ[i]? fun d => OkC d fun _ => OkA (a ρ) (fun ds ρ1 => OkG ρ1[i]? fun d => OkC d fun l => OkMu (op l ds) fun z l' => Q z (ρ1.set i (some (.lst l')))) X := by
  unfold eMut
  rcases ρ[i]? with _ | _ | d
  · with_unfolding_all rfl
  · with_unfolding_all rfl
  · cases d <;> try with_unfolding_all rfl
    simp only [okG_some, okC_lst]
    rw [okE_aBind]
    first | refine okE_ext fun ds ρ1 => ?_ | refine okA_ext fun ds ρ1 => ?_
    rcases ρ1[i]? with _ | _ | d1
    · with_unfolding_all rfl
    · with_unfolding_all rfl
    · cases d1 <;> try with_unfolding_all rfl
      simp only [okG_some, okC_lst]
      rename_i l
      rcases op l ds with _ | ⟨z, l'⟩ <;> with_unfolding_all rfl
/-! statements -/
def seqK (K : SM) (QS : Out → Prop) [Still K] [Still QS] : Out → Prop
  | .nx ρ => OkS (K ρ) QS
  | o => QS o
theorem seqK_nx : seqK K QS (.nx ρ) = OkS (K ρ) QS := by with_unfolding_all rfl
theorem seqK_rt : seqK K QS (.rt d ρ) = QS (.rt d ρ) := by with_unfolding_all rfl
theorem seqK_ex : seqK K QS (.ex d ρ) = QS (.ex d ρ) := by with_unfolding_all rfl
theorem seqK_bk : seqK K QS (.bk ρ) = QS (.bk ρ) := by with_unfolding_all rfl
theorem seqK_ct : seqK K QS (.ct ρ) = QS (.ct ρ) := by with_unfolding_all rfl
theorem okS_Seq : OkS (sSeq F K ρ) QS = OkS (F ρ) (seqK K QS) := by
  unfold sSeq
  rcases F ρ with _ | (_ | _ | _ | _ | _) <;> with_unfolding_all rfl
theorem okS_Dead : OkS (sDead ρ) QS = False := by with_unfolding_all rfl
theorem okS_Next : OkS (sNext ρ) QS = QS (.nx ρ) := by with_unfolding_all rfl
theorem okS_Brk : OkS (sBrk ρ) QS = QS (.bk ρ) := by with_unfolding_all rfl
theorem okS_Ct : OkS (sCt ρ) QS = QS (.ct ρ) := by with_unfolding_all rfl
theorem okS_RetN : OkS (sRetN ρ) QS = QS (.rt .non ρ) := by with_unfolding_all rfl
theorem okS_Raise {n : String} : OkS (sRaise n ρ) QS = QS (.ex (.exc n []) ρ) := by with_unfolding_all rfl
theorem okS_Ret : OkS (sRet f ρ) QS = OkE (f ρ) (fun d ρ1 => QS (.rt d ρ1)) fun x ρ => QS (.ex x ρ) := by
  unfold sRet; rw [okS_bind]; refine okE_ext fun _ _ => ?_; rw [okS_some]
theorem okS_Expr : OkS (sExpr f ρ) QS = OkE (f ρ) (fun _ ρ1 => QS (.nx ρ1)) fun x ρ => QS (.ex x ρ) := by
  unfold sExpr; rw [okS_bind]; refine okE_ext fun _ _ => ?_; rw [okS_some]
theorem okS_Set : OkS (sSet i f ρ) QS = OkE (f ρ) (fun d ρ1 => QS (.nx (ρ1.set i (some d)))) fun x ρ => QS (.ex x ρ) := by
  unfold sSet; rw [okS_bind]; refine okE_ext fun _ _ => ?_; rw [okS_some]
theorem okS_Par {is : List Nat} : OkS (sPar is a ρ) QS = OkA (a ρ) (fun ds ρ1 => QS (.nx (stD is ds ρ1))) fun x ρ => QS (.ex x ρ) := by
  unfold sPar; rw [okS_aBind]; refine okA_ext fun _ _ => ?_; rw [okS_some]
theorem okS_Aug {op : D → D → Option D} : OkS (sAug i op f ρ) QS = OkG ρ[i]? fun x => OkE (f ρ) (fun y ρ2 => OkD (op x y) fun d => QS (.nx (ρ2.set i (some d)))) fun x ρ => QS (.ex x ρ) := by
  unfold sAug; rw [okS_bind, okE_bind, okE_V]
  have e : ∀ {r : Option (Option D)} {A B : D → Prop}, (∀ d, A d = B d) → OkG r A = OkG r B := fun {r A B} h => by rw [funext h]
  refine e fun _ => ?_
  rw [okE_bind]; refine okE_ext fun _ _ => ?_; rw [okE_lift]
  have e : ∀ {r : Option D} {A B : D → Prop}, (∀ d, A d = B d) → OkD r A = OkD r B := fun {r A B} h => by rw [funext h]
  refine e fun _ => ?_; rw [okS_some]
theorem okS_Asg {t : Tg} : OkS (sAsg t f ρ) QS = OkE (f ρ) (fun d ρ1 => OkN (tgtD t d ρ1) fun ρ2 => QS (.nx ρ2)) fun x ρ => QS (.ex x ρ) := by
  unfold sAsg; rw [okS_bind]
  first | refine okE_ext fun d ρ1 => ?_ | refine okA_ext fun d ρ1 => ?_
  cases tgtD t d ρ1 <;> with_unfolding_all rfl
theorem okS_If : OkS (sIf f F K ρ) QS = OkE (f ρ) (fun d ρ1 => tE2 d (OkS (F ρ1) QS) (OkS (K ρ1) QS)) fun x ρ => QS (.ex x ρ) := by
  unfold sIf; rw [okS_bind]
  first | refine okE_ext fun d ρ1 => ?_ | refine okA_ext fun d ρ1 => ?_
  rcases d with _ | (_ | _) | _ | _ | _ | _ | _ | _ | _ | _ | _ | _ | _ <;> with_unfolding_all rfl
def OkX (o : Option Nat) (P : Nat → Prop) [Still P] : Prop := match o with
  | some j => P j
  | none => False
theorem okX_some {P : Nat → Prop} : OkX (some i) P = P i := by with_unfolding_all rfl
def OkZ (d : D) (P : Int → Prop) [Still P] : Prop := match d with
  | .int j => P j
  | _ => False
theorem okZ_int {P : Int → Prop} {n : Int} : OkZ (.int n) P = P n := by with_unfolding_all rfl
theorem okS_Sub : OkS (sSub i f g ρ) QS = OkE (f ρ) (fun d ρ1 => OkG ρ1[i]? fun x => OkC x fun _ => OkE (g ρ1) (fun kd ρ2 => OkG ρ2[i]? fun x => OkC x fun l => OkZ kd fun n => OkX (ixN l.length n) fun j => QS (.nx (ρ2.set i (some (.lst (l.set j d)))))) fun x ρ => QS (.ex x ρ)) fun x ρ => QS (.ex x ρ) := by
  unfold sSub; rw [okS_bind]
  first | refine okE_ext fun d ρ1 => ?_ | refine okA_ext fun d ρ1 => ?_
  rcases ρ1[i]? with _ | _ | x
  · with_unfolding_all rfl
  · with_unfolding_all rfl
  · cases x <;> try with_unfolding_all rfl
    simp only [okG_some, okC_lst]
    rw [okS_bind]
    first | refine okE_ext fun kd ρ2 => ?_ | refine okA_ext fun kd ρ2 => ?_
    rcases ρ2[i]? with _ | _ | y
    · with_unfolding_all rfl
    · with_unfolding_all rfl
    · cases y <;> try with_unfolding_all rfl
      simp only [okG_some, okC_lst]
      cases kd <;> try with_unfolding_all rfl
      simp only [okZ_int]
      rename_i l n
      cases ixN l.length n <;> with_unfolding_all rfl
def OkFp (d : D) (ns : List String) (nm : Str) (v : D) (QD : D → Prop) [Still ns] [Still nm] [Still QD] : Prop := match d with
  | .ins n fs => n ∈ ns ∧ fs.length < 1000 ∧ QD (.ins n (putD nm v fs))
  | _ => False
theorem okFp_ins {n : String} {ns : List String} {nm : Str} {fs : List (Str × D)} : OkFp (.ins n fs) ns nm d QD = (n ∈ ns ∧ fs.length < 1000 ∧ QD (.ins n (putD nm d fs))) := by with_unfolding_all rfl
theorem okS_Fld {ns : List String} {nm : Str} : OkS (sFld i ns nm f ρ) QS = OkE (f ρ) (fun d ρ1 => OkG ρ1[i]? fun x => OkFp x ns nm d fun y => QS (.nx (ρ1.set i (some y)))) fun x ρ => QS (.ex x ρ) := by
  unfold sFld; rw [okS_bind]
  first | refine okE_ext fun d ρ1 => ?_ | refine okA_ext fun d ρ1 => ?_
  rcases ρ1[i]? with _ | _ | x
  · with_unfolding_all rfl
  · with_unfolding_all rfl
  · cases x <;> try with_unfolding_all rfl
    simp only [okG_some, okFp_ins]
    split
    · rename_i e; simp only [e.1, e.2, true_and]; with_unfolding_all rfl
    · rename_i e; rw [← and_assoc]; simp only [e, false_and]; with_unfolding_all rfl
/-- what a def gives -/
def retK (pm : List Bool) (fall : Bool) (ds : List D) (QF XF : D → List D → Prop) [Still pm] [Still fall] [Still ds] [Still QF] [Still XF] : Out → Prop
  | .nx ρ => fall = true ∧ QF .non (outs pm ds ρ)
  | .rt d ρ => QF d (outs pm ds ρ)
  | .ex x ρ => XF x (outs pm ds ρ)
  | _ => False
theorem retK_nx {pm : List Bool} {fall : Bool} : retK pm fall ds QF XF (.nx ρ) = (fall = true ∧ QF .non (outs pm ds ρ)) := by with_unfolding_all rfl
theorem retK_rt {pm : List Bool} {fall : Bool} : retK pm fall ds QF XF (.rt d ρ) = QF d (outs pm ds ρ) := by with_unfolding_all rfl
theorem retK_ex {pm : List Bool} {fall : Bool} : retK pm fall ds QF XF (.ex d ρ) = XF d (outs pm ds ρ) := by with_unfolding_all rfl
theorem okF_run {pm : List Bool} {fall : Bool} {n : Nat} {B : SM} : OkF (runF pm fall n B ds) QF XF = OkS (B (ds.map some ++ List.replicate (n - ds.length) none)) (retK pm fall ds QF XF) := by
  unfold runF
  rcases B (ds.map some ++ List.replicate (n - ds.length) none) with _ | (_ | _ | _ | _ | _)
  · with_unfolding_all rfl
  · cases fall <;> simp [OkS, retK, OkF]
  all_goals with_unfolding_all rfl
theorem okF_mono {r : Option RF} {Q' X' : D → List D → Prop} (h : OkF r QF XF) (h1 : ∀ d ds, QF d ds → Q' d ds) (h2 : ∀ d ds, XF d ds → X' d ds) : OkF r Q' X' := by
  unfold OkF at h ⊢
  rcases r with _ | ⟨d, ds⟩ | ⟨x, ds⟩
  · exact h
  · exact h1 _ _ h
  · exact h2 _ _ h
theorem okF_ok {r : Option RF} (h : OkF r QF fun _ _ => False) (X' : D → List D → Prop) {Q' : D → List D → Prop} (h1 : ∀ d ds, QF d ds → Q' d ds) : OkF r Q' X' := okF_mono h h1 fun _ _ z => z.elim
/-! loops -/
def lpK (P : Env → Prop) (QS : Out → Prop) [Still P] [Still QS] : Out → Prop
  | .nx ρ => P ρ
  | .ct ρ => P ρ
  | .bk ρ => QS (.nx ρ)
  | o => QS o
theorem lpK_nx {P : Env → Prop} : lpK P QS (.nx ρ) = P ρ := by with_unfolding_all rfl
theorem lpK_ct {P : Env → Prop} : lpK P QS (.ct ρ) = P ρ := by with_unfolding_all rfl
theorem lpK_bk {P : Env → Prop} : lpK P QS (.bk ρ) = QS (.nx ρ) := by with_unfolding_all rfl
theorem lpK_rt {P : Env → Prop} : lpK P QS (.rt d ρ) = QS (.rt d ρ) := by with_unfolding_all rfl
theorem lpK_ex {P : Env → Prop} : lpK P QS (.ex d ρ) = QS (.ex d ρ) := by with_unfolding_all rfl
theorem okS_For {t : Tg} : OkS (sFor t f F ρ) QS = OkE (f ρ) (fun d ρ1 => OkC d fun is => OkS (loopF t F is ρ1) QS) fun x ρ => QS (.ex x ρ) := by
  unfold sFor; rw [okS_bind]
  first | refine okE_ext fun d ρ1 => ?_ | refine okA_ext fun d ρ1 => ?_
  cases d <;> with_unfolding_all rfl
theorem loop_nil {t : Tg} : OkS (loopF t F [] ρ) QS = QS (.nx ρ) := by with_unfolding_all rfl
theorem loop_cons {t : Tg} : OkS (loopF t F (d :: ds) ρ) QS = OkN (tgtD t d ρ) fun ρ1 => OkS (F ρ1) (lpK (fun ρ2 => OkS (loopF t F ds ρ2) QS) QS) := by
  rw [loopF]
  cases tgtD t d ρ with
  | none => with_unfolding_all rfl
  | some ρ1 =>
    simp only [okN_some]
    rcases F ρ1 with _ | (_ | _ | _ | _ | _) <;> with_unfolding_all rfl
theorem okS_mono {r : Option Out} {Q' : Out → Prop} (h : OkS r QS) (h1 : ∀ o, QS o → Q' o) : OkS r Q' := by
  unfold OkS at h ⊢
  cases r with
  | none => exact h
  | some o => exact h1 _ h
/-- a loop by what holds before each turn -/
theorem loop_inv {t : Tg} (I : List D → Env → Prop) (step : ∀ d ds ρ, I (d :: ds) ρ → OkN (tgtD t d ρ) fun ρ1 => OkS (F ρ1) (lpK (I ds) QS)) (fin : ∀ ρ, I [] ρ → QS (.nx ρ)) : ∀ ds ρ, I ds ρ → OkS (loopF t F ds ρ) QS
  | [], ρ, h => by rw [loop_nil]; exact fin ρ h
  | d :: ds, ρ, h => by
    rw [loop_cons]
    have q := step d ds ρ h
    cases e : tgtD t d ρ with
    | none => rw [e] at q; unfold OkN at q; exact q.elim
    | some ρ1 =>
      rw [e, okN_some] at q
      rw [okN_some]
      refine okS_mono q fun o => ?_
      cases o with
      | nx ρ2 => exact fun z => loop_inv I step fin ds ρ2 z
      | ct ρ2 => exact fun z => loop_inv I step fin ds ρ2 z
      | _ => exact fun z => z
theorem whileF_lit {t : E} {n : Nat} : OkS (whileF t F (n + 1) ρ) QS = OkE (t ρ) (fun d ρ1 => tE2 d (OkS (F ρ1) (lpK (fun ρ2 => OkS (whileF t F n ρ2) QS) QS)) (QS (.nx ρ1))) fun x ρ => QS (.ex x ρ) := by
  rw [whileF, okS_bind]
  first | refine okE_ext fun d ρ1 => ?_ | refine okA_ext fun d ρ1 => ?_
  rcases d with _ | (_ | _) | _ | _ | _ | _ | _ | _ | _ | _ | _ | _ | _ <;> try with_unfolding_all rfl
  simp only [tE2]
  rcases F ρ1 with _ | (_ | _ | _ | _ | _) <;> with_unfolding_all rfl
/-- a while loop by what holds before each turn and how many turns are left at most -/
theorem while_inv {t : E} (I : Nat → Env → Prop) (step : ∀ n ρ, I n ρ → OkE (t ρ) (fun d ρ1 => tE2 d (OkS (F ρ1) (lpK (fun ρ2 => ∃ m, m < n ∧ I m ρ2) QS)) (QS (.nx ρ1))) fun x ρ => QS (.ex x ρ)) : ∀ N n ρ, n < N → I n ρ → OkS (whileF t F N ρ) QS
  | 0, n, _, h, _ => absurd h (Nat.not_lt_zero n)
  | N + 1, n, ρ, h, i => by
    rw [whileF_lit]
    have q := step n ρ i
    cases e : t ρ with
    | none => rw [e] at q; unfold OkE at q; exact q.elim
    | some r =>
      rw [e] at q
      cases r with
      | ex x ρ1 => rw [okE_ex] at q ⊢; exact q
      | ok d ρ1 =>
        simp only [okE_ok] at q ⊢
        rcases d with _ | (_ | _) | _ | _ | _ | _ | _ | _ | _ | _ | _ | _ | _ <;> try exact q
        simp only [tE2] at q ⊢
        refine okS_mono q fun o => ?_
        cases o with
        | nx ρ2 => exact fun ⟨m, hm, z⟩ => while_inv I step N m ρ2 (by omega) z
        | ct ρ2 => exact fun ⟨m, hm, z⟩ => while_inv I step N m ρ2 (by omega) z
        | _ => exact fun z => z
/-- a comprehension whose parts touch nothing -/
theorem compF_map {vs : List Nat} {t : Tg} {gD : D → D} : ∀ (is acc : List D), acc.length + is.length ≤ sizeLine → (∀ d ∈ is, ∃ ρ1, tgtD t d (wipeD ρ vs) = some ρ1 ∧ f ρ1 = some (.ok (gD d) ρ1) ∧ restD vs ρ ρ1 = ρ) → OkE (compF vs t none f is acc ρ) Q X = Q (.lst (acc ++ is.map gD)) ρ
  | [], acc, _, _ => by rw [compF, List.map_nil, List.append_nil]; with_unfolding_all rfl
  | d :: is, acc, hl, h => by
    obtain ⟨ρ1, h1, h2, h3⟩ := h d List.mem_cons_self
    rw [compF, h1]
    simp only [h2, h3]
    rw [List.length_cons] at hl
    rw [if_pos (by omega), compF_map is (acc ++ [gD d]) (by rw [List.length_append]; simp only [List.length_cons, List.length_nil]; omega) fun d hd => h d (List.mem_cons_of_mem _ hd)]
    rw [List.map_cons, List.append_assoc]
    with_unfolding_all rfl
theorem compF_filter {vs : List Nat} {t : Tg} {gD : D → D} {cc : E} {p : D → Bool} : ∀ (is acc : List D), acc.length + is.length ≤ sizeLine → (∀ d ∈ is, ∃ ρ1, tgtD t d (wipeD ρ vs) = some ρ1 ∧ cc ρ1 = some (.ok (.bl (p d)) ρ1) ∧ (p d = true → f ρ1 = some (.ok (gD d) ρ1)) ∧ restD vs ρ ρ1 = ρ) → OkE (compF vs t (some cc) f is acc ρ) Q X = Q (.lst (acc ++ (is.filter p).map gD)) ρ
  | [], acc, _, _ => by rw [compF, List.filter_nil, List.map_nil, List.append_nil]; with_unfolding_all rfl
  | d :: is, acc, hl, h => by
    obtain ⟨ρ1, h1, h2, h4, h3⟩ := h d List.mem_cons_self
    rw [compF, h1]
    simp only [h2]
    rw [List.length_cons] at hl
    cases e : p d with
    | true =>
      simp only [h4 e, h3]
      rw [if_pos (by omega), compF_filter is (acc ++ [gD d]) (by rw [List.length_append]; simp only [List.length_cons, List.length_nil]; omega) fun d hd => h d (List.mem_cons_of_mem _ hd)]
      rw [List.filter_cons_of_pos e, List.map_cons, List.append_assoc]
      with_unfolding_all rfl
    | false =>
      simp only [h3]
      rw [compF_filter is acc (by omega) fun d hd => h d (List.mem_cons_of_mem _ hd), List.filter_cons_of_neg (by rw [e]; decide)]
/-! typed items -/
/-- a loop over items of one kind, by what holds behind those that are done -/
theorem loop_acc {α : Type} {t : Tg} {enc : α → D} {xs0 : List α} (I : List α → Env → Prop) (step : ∀ don x rest ρ, xs0 = don ++ x :: rest → I don ρ → OkN (tgtD t (enc x) ρ) fun ρ1 => OkS (F ρ1) (lpK (I (don ++ [x])) QS)) (fin : ∀ ρ, I xs0 ρ → QS (.nx ρ)) (h0 : I [] ρ) : OkS (loopF t F (xs0.map enc) ρ) QS := by
  have key : ∀ (rest don : List α) (ρ : Env), xs0 = don ++ rest → I don ρ → OkS (loopF t F (rest.map enc) ρ) QS := by
    intro rest
    induction rest with
    | nil =>
      intro don ρ e h
      rw [List.append_nil] at e
      subst e
      rw [List.map_nil, loop_nil]
      exact fin ρ h
    | cons x rest ih =>
      intro don ρ e h
      rw [List.map_cons, loop_cons]
      have q := step don x rest ρ e h
      cases e2 : tgtD t (enc x) ρ with
      | none => rw [e2] at q; unfold OkN at q; exact q.elim
      | some ρ1 =>
        rw [e2, okN_some] at q
        rw [okN_some]
        refine okS_mono q fun o => ?_
        cases o with
        | nx ρ2 => exact fun z => ih _ ρ2 (by rw [e, List.append_assoc]; rfl) z
        | ct ρ2 => exact fun z => ih _ ρ2 (by rw [e, List.append_assoc]; rfl) z
        | _ => exact fun z => z
  exact key xs0 [] ρ rfl h0
/-- a loop over numbered items -/
theorem loop_rng {t : Tg} {enc : Nat → D} {n : Nat} (I : Nat → Env → Prop) (step : ∀ k ρ, k < n → I k ρ → OkN (tgtD t (enc k) ρ) fun ρ1 => OkS (F ρ1) (lpK (I (k + 1)) QS)) (fin : ∀ ρ, I n ρ → QS (.nx ρ)) (h0 : I 0 ρ) : OkS (loopF t F ((List.range n).map enc) ρ) QS := by
  refine loop_acc (fun don ρ => I don.length ρ) (fun don x rest ρ e h => ?_) (fun ρ h => fin ρ (by rw [List.length_range] at h; exact h)) h0
  have hx : x = don.length ∧ don.length < n := by
    have q := congrArg (fun z => z[don.length]?) e
    rw [List.getElem?_append_right (Nat.le_refl _), Nat.sub_self, List.getElem?_cons_zero] at q
    have hl := (List.getElem?_eq_some_iff.mp q).1
    rw [List.length_range] at hl
    rw [List.getElem?_range hl] at q
    cases q
    exact ⟨rfl, hl⟩
  rw [List.length_append, List.length_cons, List.length_nil, hx.1]
  exact step _ ρ hx.2 h
/-- a loop over items of one kind, by what holds of those that are left -/
theorem loop_left {α : Type} {t : Tg} {enc : α → D} (I : List α → Env → Prop) (step : ∀ x rest ρ, I (x :: rest) ρ → OkN (tgtD t (enc x) ρ) fun ρ1 => OkS (F ρ1) (lpK (I rest) QS)) (fin : ∀ ρ, I [] ρ → QS (.nx ρ)) : ∀ xs ρ, I xs ρ → OkS (loopF t F (xs.map enc) ρ) QS
  | [], ρ, h => by rw [List.map_nil, loop_nil]; exact fin ρ h
  | x :: rest, ρ, h => by
    rw [List.map_cons, loop_cons]
    have q := step x rest ρ h
    cases e2 : tgtD t (enc x) ρ with
    | none => rw [e2] at q; unfold OkN at q; exact q.elim
    | some ρ1 =>
      rw [e2, okN_some] at q
      rw [okN_some]
      refine okS_mono q fun o => ?_
      cases o with
      | nx ρ2 => exact fun z => loop_left I step fin rest ρ2 z
      | ct ρ2 => exact fun z => loop_left I step fin rest ρ2 z
      | _ => exact fun z => z
theorem compF_typed {α : Type} {vs : List Nat} {t : Tg} {enc gD : α → D} (xs : List α) (hl : xs.length ≤ sizeLine) (h : ∀ x ∈ xs, ∃ ρ1, tgtD t (enc x) (wipeD ρ vs) = some ρ1 ∧ OkE (f ρ1) (fun d ρ2 => d = gD x ∧ ρ2 = ρ1) (fun _ _ => False) ∧ restD vs ρ ρ1 = ρ) : OkE (compF vs t none f (xs.map enc) [] ρ) Q X = Q (.lst (xs.map gD)) ρ := by
  have key : ∀ (xs : List α) (acc : List D), acc.length + xs.length ≤ sizeLine → (∀ x ∈ xs, ∃ ρ1, tgtD t (enc x) (wipeD ρ vs) = some ρ1 ∧ OkE (f ρ1) (fun d ρ2 => d = gD x ∧ ρ2 = ρ1) (fun _ _ => False) ∧ restD vs ρ ρ1 = ρ) → OkE (compF vs t none f (xs.map enc) acc ρ) Q X = Q (.lst (acc ++ xs.map gD)) ρ := by
    intro xs
    induction xs with
    | nil => intro acc _ _; rw [List.map_nil, List.map_nil, List.append_nil, compF, okE_ok]
    | cons x xs ih =>
      intro acc hl h
      obtain ⟨ρ1, h1, h2, h3⟩ := h x List.mem_cons_self
      have h2' : f ρ1 = some (.ok (gD x) ρ1) := by
        unfold OkE at h2
        rcases hf : f ρ1 with _ | ⟨d1, ρ2⟩ | ⟨x, ρ2⟩
        · rw [hf] at h2; exact h2.elim
        · rw [hf] at h2; obtain ⟨rfl, rfl⟩ := h2; rfl
        · rw [hf] at h2; exact h2.elim
      rw [List.map_cons, compF, h1]
      simp only [h2', h3]
      rw [List.length_cons] at hl
      rw [if_pos (by omega), ih (acc ++ [gD x]) (by rw [List.length_append]; simp only [List.length_cons, List.length_nil]; omega) fun d hd => h d (List.mem_cons_of_mem _ hd)]
      rw [List.map_cons, List.append_assoc]
      rfl
  rw [key xs [] (by simpa using hl) h, List.nil_append]
theorem compF_typedF {α : Type} {vs : List Nat} {t : Tg} {enc gD : α → D} {cc : E} {p : α → Bool} (xs : List α) (hl : xs.length ≤ sizeLine) (h : ∀ x ∈ xs, ∃ ρ1, tgtD t (enc x) (wipeD ρ vs) = some ρ1 ∧ OkE (cc ρ1) (fun d ρ2 => d = .bl (p x) ∧ ρ2 = ρ1) (fun _ _ => False) ∧ (p x = true → OkE (f ρ1) (fun d ρ2 => d = gD x ∧ ρ2 = ρ1) (fun _ _ => False)) ∧ restD vs ρ ρ1 = ρ) : OkE (compF vs t (some cc) f (xs.map enc) [] ρ) Q X = Q (.lst ((xs.filter p).map gD)) ρ := by
  have un : ∀ {g : E} {ρ1 : Env} {d0 : D}, OkE (g ρ1) (fun d ρ2 => d = d0 ∧ ρ2 = ρ1) (fun _ _ => False) → g ρ1 = some (.ok d0 ρ1) := fun {g ρ1 d0} h2 => by
    unfold OkE at h2
    rcases hf : g ρ1 with _ | ⟨d1, ρ2⟩ | ⟨x, ρ2⟩
    · rw [hf] at h2; exact h2.elim
    · rw [hf] at h2; obtain ⟨rfl, rfl⟩ := h2; rfl
    · rw [hf] at h2; exact h2.elim
  have key : ∀ (xs : List α) (acc : List D), acc.length + xs.length ≤ sizeLine → (∀ x ∈ xs, ∃ ρ1, tgtD t (enc x) (wipeD ρ vs) = some ρ1 ∧ OkE (cc ρ1) (fun d ρ2 => d = .bl (p x) ∧ ρ2 = ρ1) (fun _ _ => False) ∧ (p x = true → OkE (f ρ1) (fun d ρ2 => d = gD x ∧ ρ2 = ρ1) (fun _ _ => False)) ∧ restD vs ρ ρ1 = ρ) → OkE (compF vs t (some cc) f (xs.map enc) acc ρ) Q X = Q (.lst (acc ++ (xs.filter p).map gD)) ρ := by
    intro xs
    induction xs with
    | nil => intro acc _ _; rw [List.map_nil, List.filter_nil, List.map_nil, List.append_nil, compF, okE_ok]
    | cons x xs ih =>
      intro acc hl h
      obtain ⟨ρ1, h1, h2, h4, h3⟩ := h x List.mem_cons_self
      rw [List.map_cons, compF, h1]
      simp only [un h2]
      rw [List.length_cons] at hl
      cases e : p x with
      | true =>
        simp only [un (h4 e), h3]
        rw [if_pos (by omega), ih (acc ++ [gD x]) (by rw [List.length_append]; simp only [List.length_cons, List.length_nil]; omega) fun d hd => h d (List.mem_cons_of_mem _ hd)]
        rw [List.filter_cons_of_pos e, List.map_cons, List.append_assoc]
        rfl
      | false =>
        simp only [h3]
        rw [ih acc (by omega) fun d hd => h d (List.mem_cons_of_mem _ hd), List.filter_cons_of_neg (by rw [e]; decide)]
  rw [key xs [] (by simpa using hl) h, List.nil_append]
/-- a run at which the parts are asked -/
theorem okE_eq {r : Option R} {ρ' : Env} (h : OkE r (fun x ρ1 => x = d ∧ ρ1 = ρ') fun _ _ => False) : r = some (.ok d ρ') := by
  unfold OkE at h
  rcases r with _ | ⟨x, ρ1⟩ | ⟨x, ρ1⟩
  · exact h.elim
  · obtain ⟨rfl, rfl⟩ := h; with_unfolding_all rfl
  · exact h.elim
theorem okF_eq {r : Option RF} {Q : D → List D → Prop} (h : OkF r Q fun _ _ => False) : ∃ d ds, r = some (.ok d ds) ∧ Q d ds := by
  unfold OkF at h
  rcases r with _ | ⟨x, ρ1⟩ | ⟨x, ρ1⟩
  · exact h.elim
  · exact ⟨_, _, rfl, h⟩
  · exact h.elim
/-! operations -/
theorem okD_if {c : Prop} [Decidable c] : OkD (if c then some d else none) QD = (c ∧ QD d) := by
  by_cases e : c
  · rw [if_pos e]; simp only [e, true_and]; with_unfolding_all rfl
  · rw [if_neg e]; simp only [e, false_and]; with_unfolding_all rfl
theorem addD_int {a b : Int} : addD (.int a) (.int b) = some (.int (a + b)) := by with_unfolding_all rfl
theorem mulD_int {a b : Int} : mulD (.int a) (.int b) = if mulC a b then some (.int (a * b)) else none := by with_unfolding_all rfl
theorem eqD_int {a b : Int} : eqD (.int a) (.int b) = some (.bl (decide (a = b))) := by with_unfolding_all rfl
theorem eqD_str {a b : Str} : eqD (.str a) (.str b) = some (.bl (decide (a = b))) := by with_unfolding_all rfl
theorem eqD_bl {a b : Bool} : eqD (.bl a) (.bl b) = some (.bl (decide (a = b))) := by with_unfolding_all rfl
theorem neD_int {a b : Int} : neD (.int a) (.int b) = some (.bl (!decide (a = b))) := by with_unfolding_all rfl
theorem neD_str {a b : Str} : neD (.str a) (.str b) = some (.bl (!decide (a = b))) := by with_unfolding_all rfl
theorem neD_bl {a b : Bool} : neD (.bl a) (.bl b) = some (.bl (!decide (a = b))) := by with_unfolding_all rfl
theorem ixN_nat {m n : Nat} (h : n < m) : ixN m (n : Int) = some n := by
  unfold ixN
  rw [if_pos (by omega), if_pos (by omega), Int.toNat_natCast]
theorem atI_nat {α : Type} {l : List α} {n : Nat} {x : α} (h : l[n]? = some x) : atI l (n : Int) = some x := by
  obtain ⟨hl, e⟩ := List.getElem?_eq_some_iff.mp h
  unfold atI
  rw [ixN_nat hl]
  exact h
theorem ixL_0 {x : D} {l : List D} : ixD (.lst (x :: l)) (.int 0) = some x := atI_nat (n := 0) rfl
theorem ixL_1 {x x1 : D} {l : List D} : ixD (.lst (x :: x1 :: l)) (.int 1) = some x1 := atI_nat (n := 1) rfl
theorem ixL_2 {x x1 x2 : D} {l : List D} : ixD (.lst (x :: x1 :: x2 :: l)) (.int 2) = some x2 := atI_nat (n := 2) rfl
theorem ixL_3 {x x1 x2 x3 : D} {l : List D} : ixD (.lst (x :: x1 :: x2 :: x3 :: l)) (.int 3) = some x3 := atI_nat (n := 3) rfl
theorem ixT_0 {x : D} {l : List D} : ixD (.tup (x :: l)) (.int 0) = some x := atI_nat (n := 0) rfl
theorem ixT_1 {x x1 : D} {l : List D} : ixD (.tup (x :: x1 :: l)) (.int 1) = some x1 := atI_nat (n := 1) rfl
theorem ixT_2 {x x1 x2 : D} {l : List D} : ixD (.tup (x :: x1 :: x2 :: l)) (.int 2) = some x2 := atI_nat (n := 2) rfl
theorem ixT_3 {x x1 x2 x3 : D} {l : List D} : ixD (.tup (x :: x1 :: x2 :: x3 :: l)) (.int 3) = some x3 := atI_nat (n := 3) rfl
theorem ixN_0 {n : Nat} : ixN (n + 1) 0 = some 0 := ixN_nat (n := 0) (by omega)
theorem ixN_1 {n : Nat} : ixN (n + 1 + 1) 1 = some 1 := ixN_nat (n := 1) (by omega)
theorem ixN_2 {n : Nat} : ixN (n + 1 + 1 + 1) 2 = some 2 := ixN_nat (n := 2) (by omega)
theorem ixN_3 {n : Nat} : ixN (n + 1 + 1 + 1 + 1) 3 = some 3 := ixN_nat (n := 3) (by omega)
theorem isD_non : isD d .non = some (.bl (isN d)) := by cases d <;> with_unfolding_all rfl
theorem isntD_non : isntD d .non = some (.bl (!isN d)) := by cases d <;> with_unfolding_all rfl
theorem listD_lst : listD (.lst ds) = some ds := by with_unfolding_all rfl
theorem listD_slst {ns : List Int} : listD (.slst ns) = some (ns.map .int) := by with_unfolding_all rfl
theorem appendD_ok {d : D} : appendD ds [d] = if ds.length < 1000000 then some (.non, ds ++ [d]) else none := by with_unfolding_all rfl
theorem extendD_ok {es : List D} : extendD ds [.lst es] = if ds.length + es.length < 1000000 then some (.non, ds ++ es) else none := by with_unfolding_all rfl
theorem okMu_if {c : Prop} [Decidable c] {z : D} {P : D → List D → Prop} : OkMu (if c then some (z, ds) else none) P = (c ∧ P z ds) := by
  by_cases e : c
  · rw [if_pos e]; simp only [e, true_and]; with_unfolding_all rfl
  · rw [if_neg e]; simp only [e, false_and]; with_unfolding_all rfl
theorem okL_if {c : Prop} [Decidable c] : OkL (if c then some ds else none) QL = (c ∧ QL ds) := by
  by_cases e : c
  · rw [if_pos e]; simp only [e, true_and]; with_unfolding_all rfl
  · rw [if_neg e]; simp only [e, false_and]; with_unfolding_all rfl
theorem k_rng1_int {j : Int} : k_rng1 [.int j] = if rngC j then some (rngL 0 j.toNat) else none := by with_unfolding_all rfl
theorem k_rng2_int {i j : Int} : k_rng2 [.int i, .int j] = if rngC i ∧ rngC j then some (rngL i (j - i).toNat) else none := by with_unfolding_all rfl
section
variable {a b : Int}
theorem subD_int : subD (.int a) (.int b) = some (.int (a - b)) := by with_unfolding_all rfl
theorem modD_int : modD (.int a) (.int b) = if 0 < b then some (.int (a % b)) else none := by with_unfolding_all rfl
theorem divD_int : divD (.int a) (.int b) = if divC b then some (.int (a / b)) else none := by with_unfolding_all rfl
theorem powD_int : powD (.int a) (.int b) = if powC a b then some (.int (a ^ b.toNat)) else none := by with_unfolding_all rfl
theorem shlD_int : shlD (.int a) (.int b) = if shlC a b then some (.int (a * 2 ^ b.toNat)) else none := by with_unfolding_all rfl
theorem shrD_int : shrD (.int a) (.int b) = if 0 ≤ b then some (.int (a / 2 ^ b.toNat)) else none := by with_unfolding_all rfl
theorem andD_int : andD (.int a) (.int b) = some (.int (Builtin.bitAnd a b)) := by with_unfolding_all rfl
theorem xorD_int : xorD (.int a) (.int b) = some (.int (Builtin.bitXor a b)) := by with_unfolding_all rfl
theorem negD_int : negD (.int a) = some (.int (-a)) := by with_unfolding_all rfl
theorem ltD_int : ltD (.int a) (.int b) = some (.bl (decide (a < b))) := by with_unfolding_all rfl
theorem leD_int : leD (.int a) (.int b) = some (.bl (decide (a ≤ b))) := by with_unfolding_all rfl
theorem gtD_int : gtD (.int a) (.int b) = some (.bl (decide (b < a))) := by with_unfolding_all rfl
theorem geD_int : geD (.int a) (.int b) = some (.bl (decide (b ≤ a))) := by with_unfolding_all rfl
theorem subI_int : subI (.int a) (.int b) = some (.int (a - b)) := by with_unfolding_all rfl
theorem addI_int : addI (.int a) (.int b) = some (.int (a + b)) := by with_unfolding_all rfl
theorem b_int_int : b_int [.int a] = some (.int a) := by with_unfolding_all rfl
theorem b_int_bl {c : Bool} : b_int [.bl c] = some (.int (if c then 1 else 0)) := by with_unfolding_all rfl
theorem b_max2_int : b_max2 [.int a, .int b] = some (.int (if b > a then b else a)) := by with_unfolding_all rfl
theorem b_min2_int : b_min2 [.int a, .int b] = some (.int (if b < a then b else a)) := by with_unfolding_all rfl
theorem b_abs_int : b_abs [.int a] = some (.int (if a < 0 then -a else a)) := by with_unfolding_all rfl
theorem pow1018 : powD (.int 10) (.int 18) = some (.int 1000000000000000000) := by
  rw [powD_int, if_pos (show powC _ _ from ⟨by decide, by decide +kernel⟩)]
  exact congrArg some (congrArg D.int (by decide +kernel))
theorem pow1015 : powD (.int 10) (.int 15) = some (.int 1000000000000000) := by
  rw [powD_int, if_pos (show powC _ _ from ⟨by decide, by decide +kernel⟩)]
  exact congrArg some (congrArg D.int (by decide +kernel))
theorem tE2_t {P P' : Prop} : tE2 (.bl true) P P' = P := by with_unfolding_all rfl
theorem tE2_f {P P' : Prop} : tE2 (.bl false) P P' = P' := by with_unfolding_all rfl
end
theorem while_invN {t : E} (I : Nat → Env → Prop) (step : ∀ n ρ, I n ρ → OkE (t ρ) (fun d ρ1 => tE2 d (OkS (F ρ1) (lpK (fun ρ2 => ∃ m, m < n ∧ I m ρ2) QS)) (QS (.nx ρ1))) fun x ρ => QS (.ex x ρ)) {n : Nat} {ρ : Env} (h : I n ρ) : OkS (whileN t F ρ) QS := by
  have q := while_inv (QS := QS) I step (n + 1) n ρ (Nat.lt_succ_self n) h
  cases e : whileF t F (n + 1) ρ with
  | none => rw [e] at q; unfold OkS at q; exact q.elim
  | some o => rw [e] at q; rw [whileN_of e]; exact q
section
variable {a b : Int}
theorem mulD_ok : OkD (mulD (.int a) (.int b)) QD = (mulC a b ∧ QD (.int (a * b))) := by rw [mulD_int, okD_if]
theorem modD_ok : OkD (modD (.int a) (.int b)) QD = (0 < b ∧ QD (.int (a % b))) := by rw [modD_int, okD_if]
theorem divD_ok : OkD (divD (.int a) (.int b)) QD = (divC b ∧ QD (.int (a / b))) := by rw [divD_int, okD_if]
theorem powD_ok : OkD (powD (.int a) (.int b)) QD = (powC a b ∧ QD (.int (a ^ b.toNat))) := by rw [powD_int, okD_if]
theorem shlD_ok : OkD (shlD (.int a) (.int b)) QD = (shlC a b ∧ QD (.int (a * 2 ^ b.toNat))) := by rw [shlD_int, okD_if]
theorem shrD_ok : OkD (shrD (.int a) (.int b)) QD = (0 ≤ b ∧ QD (.int (a / 2 ^ b.toNat))) := by rw [shrD_int, okD_if]
theorem okMu_app {d : D} {P : D → List D → Prop} : OkMu (appendD ds [d]) P = (ds.length < 1000000 ∧ P .non (ds ++ [d])) := by rw [appendD_ok, okMu_if]
theorem okMu_ext {es : List D} {P : D → List D → Prop} : OkMu (extendD ds [.lst es]) P = (ds.length + es.length < 1000000 ∧ P .non (ds ++ es)) := by rw [extendD_ok, okMu_if]
theorem okL_rng1 : OkL (k_rng1 [.int a]) QL = (rngC a ∧ QL (rngL 0 a.toNat)) := by rw [k_rng1_int, okL_if]
theorem okL_rng2 : OkL (k_rng2 [.int a, .int b]) QL = ((rngC a ∧ rngC b) ∧ QL (rngL a (b - a).toNat)) := by rw [k_rng2_int, okL_if]
theorem chr_map {l : List Bool} : chrL (wS l) = l.map fun b => D.str (wS [b]) := by
  unfold chrL
  rw [wS_list, List.map_map]
  exact List.map_congr_left fun b _ => rfl
theorem enum_map {α : Type} {enc : α → D} : ∀ (xs : List α) (k : Nat), enumL k (xs.map enc) = (xs.zipIdx k).map fun p => D.tup [.int (p.2 : Nat), enc p.1]
  | [], _ => rfl
  | x :: xs, k => by
    rw [List.map_cons, List.zipIdx_cons, List.map_cons, ← enum_map xs (k + 1)]
    rfl
theorem zip_map {α β : Type} {ea : α → D} {eb : β → D} : ∀ (as : List α) (bs : List β), zipL (as.map ea) (bs.map eb) = (as.zip bs).map fun p => D.tup [ea p.1, eb p.2]
  | [], bs => by cases bs <;> rfl
  | a :: as, [] => rfl
  | a :: as, b :: bs => by
    rw [List.map_cons, List.map_cons, List.zip_cons_cons, List.map_cons, ← zip_map as bs]
    rfl
theorem k_enumT_str {z : Str} : k_enumT [.str z] = some (enumL 0 (chrL z)) := by with_unfolding_all rfl
theorem k_enum_lst : k_enum [.lst ds] = some (enumL 0 ds) := by with_unfolding_all rfl
theorem b_sum_ints {ns : List Int} : b_sum [.lst (ns.map .int)] = some (.int ns.sum) := by
  show ((some (ns.map D.int)).bind intsD).map (fun ns => D.int ns.sum) = _
  rw [Option.bind_some, show intsD (ns.map D.int) = some ns from by induction ns with
    | nil => rfl
    | cons n ns ih => rw [List.map_cons, intsD, ih]; rfl]
  with_unfolding_all rfl
theorem b_sum_2 : b_sum [.lst [.int a, .int b]] = some (.int (a + b)) := by
  have h := b_sum_ints (ns := [a, b])
  rw [show [a, b].sum = a + b by simp] at h
  exact h
theorem addD_str {x y : Str} : OkD (addD (.str x) (.str y)) QD = (x.length + y.length ≤ sizeLine ∧ QD (.str (x ++ y))) := by
  show OkD (if x.length + y.length ≤ sizeLine then some (.str (x ++ y)) else none) QD = _
  rw [okD_if]
theorem mulD_str {x : Str} : OkD (mulD (.str x) (.int a)) QD = ((x.length ≤ 1000 ∧ -1000 ≤ a ∧ a ≤ 1000) ∧ QD (.str (Txt.mul x a))) := by
  show OkD (if x.length ≤ 1000 ∧ -1000 ≤ a ∧ a ≤ 1000 then some (.str (Txt.mul x a)) else none) QD = _
  rw [okD_if]
end
theorem m_count_str {x y : Str} : m_count (.str x) [.str y] = some (.int (Txt.count x y)) := by with_unfolding_all rfl
theorem b_len_str {x : Str} : OkD (b_len [.str x]) QD = (x.length ≤ sizeLine ∧ QD (.int (x.length : Nat))) := by
  show OkD (if x.length ≤ sizeLine then some (.int (x.length : Nat)) else none) QD = _
  rw [okD_if]
theorem b_len_lst : b_len [.lst ds] = some (.int (ds.length : Nat)) := by with_unfolding_all rfl
theorem b_len_tup : b_len [.tup ds] = some (.int (ds.length : Nat)) := by with_unfolding_all rfl
theorem tgtD_nm : tgtD (.nm i) d ρ = some (ρ.set i (some d)) := by rw [tgtD]
theorem tgtD_tp {ts : List Tg} : tgtD (.tp ts) (.tup ds) ρ = tgtsD ts ds ρ := by rw [tgtD]
theorem tgtsD_nil : tgtsD [] [] ρ = some ρ := by rw [tgtsD]
theorem tgtsD_cons {t : Tg} {ts : List Tg} : tgtsD (t :: ts) (d :: ds) ρ = (tgtD t d ρ).bind fun ρ1 => tgtsD ts ds ρ1 := by rw [tgtsD]
section
variable {ks : List Kd} {is : List Nat} {pm : List Bool} {x : Option D}
theorem argD_full : argD (.full :: ks) (d :: ds) ρ = d :: argD ks ds ρ := by with_unfolding_all rfl
theorem argD_own : argD (.own :: ks) (d :: ds) ρ = d :: argD ks ds ρ := by with_unfolding_all rfl
theorem argD_root : argD (.root :: ks) (d :: ds) ρ = d :: argD ks ds ρ := by with_unfolding_all rfl
theorem argD_cel : argD (.cel i :: ks) (d :: ds) ρ = ((ρ[i]?).join.getD .non) :: argD ks ds ρ := by with_unfolding_all rfl
theorem argD_nil : argD [] ds ρ = [] := by cases ds <;> with_unfolding_all rfl
theorem putC_full : putC (.full :: ks) (d :: ds) ρ = putC ks ds ρ := by with_unfolding_all rfl
theorem putC_own : putC (.own :: ks) (d :: ds) ρ = putC ks ds ρ := by with_unfolding_all rfl
theorem putC_root : putC (.root :: ks) (d :: ds) ρ = putC ks ds ρ := by with_unfolding_all rfl
theorem putC_cel : putC (.cel i :: ks) (d :: ds) ρ = (putC ks ds ρ).set i (some d) := by with_unfolding_all rfl
theorem putC_nil : putC [] ds ρ = ρ := by cases ds <;> with_unfolding_all rfl
theorem outs_t : outs (true :: pm) (d :: ds) (x :: ρ) = x.getD d :: outs pm ds ρ := by with_unfolding_all rfl
theorem outs_f : outs (false :: pm) (d :: ds) (x :: ρ) = d :: outs pm ds ρ := by with_unfolding_all rfl
theorem outs_nil : outs [] ds ρ = ds := by cases ds <;> cases ρ <;> with_unfolding_all rfl
theorem stD_cons : stD (i :: is) (d :: ds) ρ = stD is ds (ρ.set i (some d)) := by with_unfolding_all rfl
theorem stD_nil : stD [] ds ρ = ρ := by cases ds <;> with_unfolding_all rfl
end
theorem okF_val : OkF (some (.ok d ds)) QF XF = QF d ds := by with_unfolding_all rfl
theorem okF_exc : OkF (some (.ex d ds)) QF XF = XF d ds := by with_unfolding_all rfl
theorem bitsD_int {i : Int} : bitsD (.int i) = some (.int (Builtin.Int.intBits i : Nat)) := by with_unfolding_all rfl
theorem b_gcd_int {i j : Int} : b_gcd [.int i, .int j] = some (.int (Nat.gcd i.natAbs j.natAbs : Nat)) := by with_unfolding_all rfl
theorem b_comb_ok {i j : Int} : OkD (b_comb [.int i, .int j]) QD = (combC i j ∧ QD (.int (PySem.W.mcComb i j))) := by
  show OkD (if combC i j then some (.int (PySem.W.mcComb i j)) else none) QD = _
  rw [okD_if]
theorem b_tuple_tup : b_tuple [.tup ds] = some (.tup ds) := by with_unfolding_all rfl
theorem b_tuple_lst : b_tuple [.lst ds] = some (.tup ds) := by with_unfolding_all rfl
theorem b_str_str {x : Str} : b_str [.str x] = some (.str x) := by with_unfolding_all rfl
theorem b_str_int {i : Int} : OkD (b_str [.int i]) QD = (i.natAbs.log2 < 1920 ∧ QD (.str (toString i))) := by
  show OkD (if i.natAbs.log2 < 1920 then some (.str (toString i)) else none) QD = _
  rw [okD_if]
theorem m_join_strs {a : Str} {ys : List Str} : OkD (m_join (.str a) [.lst (ys.map .str)]) QD = (joinC a ys ∧ QD (.str (Txt.join a ys))) := by
  show OkD (((some (ys.map D.str)).bind strsD).bind fun ys => if joinC a ys then some (.str (Txt.join a ys)) else none) QD = _
  rw [Option.bind_some, strsD_map, Option.bind_some, okD_if]
theorem addD_lst {a b : List D} : OkD (addD (.lst a) (.lst b)) QD = (a.length + b.length ≤ sizeLine ∧ QD (.lst (a ++ b))) := by
  show OkD (if a.length + b.length ≤ sizeLine then some (.lst (a ++ b)) else none) QD = _
  rw [okD_if]
theorem addD_tup {a b : List D} : OkD (addD (.tup a) (.tup b)) QD = (a.length + b.length ≤ sizeLine ∧ QD (.tup (a ++ b))) := by
  show OkD (if a.length + b.length ≤ sizeLine then some (.tup (a ++ b)) else none) QD = _
  rw [okD_if]
theorem catD_lst {a b : List D} : OkD (catD (.lst a) (.lst b)) QD = (a.length + b.length ≤ sizeLine ∧ QD (.lst (a ++ b))) := by
  show OkD (if a.length + b.length ≤ sizeLine then some (.lst (a ++ b)) else none) QD = _
  rw [okD_if]
theorem mulD_lst {x : List D} {a : Int} : OkD (mulD (.lst x) (.int a)) QD = (repC x.length a ∧ QD (.lst (List.replicate a.toNat x).flatten)) := by
  show OkD (if repC x.length a then some (.lst (List.replicate a.toNat x).flatten) else none) QD = _
  rw [okD_if]
theorem repD_lst {x : List D} {a : Int} : OkD (repD (.lst x) (.int a)) QD = (repC x.length a ∧ QD (.lst (List.replicate a.toNat x).flatten)) := by
  show OkD (if repC x.length a then some (.lst (List.replicate a.toNat x).flatten) else none) QD = _
  rw [okD_if]
theorem b_sortedP_pairs {ps : List (Int × Int)} : b_sortedP [.lst (ps.map prI)] = some (.lst ((psort ps).map prI)) := by
  show ((some (ps.map prI)).bind pairsD).map (fun ps => D.lst ((psort ps).map prI)) = _
  rw [Option.bind_some, pairsD_map]
  rfl
theorem k_zip_lst {a b : List D} : k_zip [.lst a, .lst b] = some (zipL a b) := by with_unfolding_all rfl
theorem k_rev_lst {a : List D} : k_rev [.lst a] = some a.reverse := by with_unfolding_all rfl
theorem b_list_lst {a : List D} : b_list [.lst a] = some (.lst a) := by with_unfolding_all rfl
theorem b_list_tup {a : List D} : b_list [.tup a] = some (.lst a) := by with_unfolding_all rfl
/-- what a def gives, once and for all -/
theorem eqF {r : Option RF} {ds0 : List D} {d0 : D} (h : OkF r (fun d ds => d = d0 ∧ ds = ds0) fun _ _ => False) : r = some (.ok d0 ds0) := by
  unfold OkF at h
  rcases r with _ | ⟨x, ρ1⟩ | ⟨x, ρ1⟩
  · exact h.elim
  · obtain ⟨rfl, rfl⟩ := h; with_unfolding_all rfl
  · exact h.elim
theorem okM_is {r : Option RF} {d0 : D} {QD X : D → Prop} (h : OkM r (fun d => d = d0) fun _ => False) : OkM r QD X = QD d0 := by
  rcases r with _ | ⟨d, _ | ⟨d1, dt⟩⟩ | ⟨x, dt⟩
  · unfold OkM at h; exact h.elim
  · unfold OkM at h; cases d <;> exact h.elim
  · cases d with
    | non =>
      have e : d1 = d0 := by with_unfolding_all exact h
      subst e
      with_unfolding_all rfl
    | _ => unfold OkM at h; exact h.elim
  · unfold OkM at h; exact h.elim
/-! ### plain data of moderate size: its text is short, it is equal to itself -/
def Pl (k n : Nat) (d : D) : Prop := ∃ p, D.py d = some p ∧ p.showable = true ∧ p.hasDict = false ∧ p.depth ≤ k ∧ p.leavesShort 1002 = true ∧ p.bulk ≤ n ∧ p.canLay0 = true
theorem Pl.mono {k n k' n' : Nat} {d : D} (h : Pl k n d) (hk : k ≤ k') (hn : n ≤ n') : Pl k' n' d := by
  obtain ⟨p, h1, h2, h3, h4, h5, h6, h7⟩ := h
  exact ⟨p, h1, h2, h3, Nat.le_trans h4 hk, h5, Nat.le_trans h6 hn, h7⟩
theorem pl_atm {d : D} {p : PyData} (e : D.py d = some p) (h : Lk.Atm p) (n : Nat) (hb : p.bulk ≤ n) : Pl 0 n d := by
  obtain ⟨a1, a2, a3, a4, a5, a6⟩ := Lk.atm_ok p h
  exact ⟨p, e, a1, a2, Nat.le_of_eq a3, a5, hb, a4⟩
theorem pl_non : Pl 0 0 .non := ⟨_, rfl, rfl, rfl, Nat.le_refl _, rfl, Nat.le_refl _, rfl⟩
theorem pl_bl {b : Bool} : Pl 0 0 (.bl b) := ⟨_, rfl, by simp only [PyData.showable], by simp only [PyData.hasDict], by simp [PyData.depth], by simp only [PyData.leavesShort], by simp [PyData.bulk], by simp only [PyData.canLay0]⟩
theorem pl_int {i : Int} (h : i.natAbs < 2 ^ 1000) : Pl 0 0 (.int i) := pl_atm (p := .int i) rfl h 0 (by simp [PyData.bulk])
theorem pl_nat {i : Nat} (h : i < 2 ^ 1000) : Pl 0 0 (.int (i : Nat)) := pl_int (by rw [Int.natAbs_natCast]; exact h)
theorem pl_word {l : List Bool} (h : l.length ≤ 1000) : Pl 0 1000 (.str (Lk.wS l)) := pl_atm (p := .str (Lk.wS l)) rfl ⟨l, rfl, h⟩ 1000 (by
  simp only [PyData.bulk]
  have e : (Lk.wS l).length = l.length := Lk.wS_len l
  exact Nat.le_trans (Nat.le_of_eq e) h)
theorem pl_str {x : Str} {n : Nat} (h : x.cps.toList.all (fun c => decide (c < 16 ^ 8)) = true) (ho : (PyData.str x).canLay0 = true) (hs : x.cps.size ≤ n) : Pl 0 n (.str x) :=
  ⟨_, rfl, by simp only [PyData.showable], by simp only [PyData.hasDict], by simp [PyData.depth], by simpa only [PyData.leavesShort] using h, by simpa only [PyData.bulk] using hs, ho⟩
theorem pl_all {k n : Nat} : ∀ {ds : List D}, (∀ d ∈ ds, Pl k n d) → ∃ ps, D.pys ds = some ps ∧ PyData.showableAll ps = true ∧ PyData.hasDictAll ps = false ∧ PyData.depthAll ps ≤ k ∧ PyData.leavesShortAll 1002 ps = true ∧ PyData.bulkAll ps ≤ (n + 1) * ds.length ∧ PyData.canLayAll0 ps = true
  | [], _ => ⟨[], rfl, by simp only [PyData.showableAll], by simp only [PyData.hasDictAll], by simp [PyData.depthAll], by simp only [PyData.leavesShortAll], by simp [PyData.bulkAll], by simp only [PyData.canLayAll0]⟩
  | d :: ds, h => by
    obtain ⟨p, h1, h2, h3, h4, h5, h6, h7⟩ := h d List.mem_cons_self
    obtain ⟨ps, g1, g2, g3, g4, g5, g6, g7⟩ := pl_all fun e he => h e (List.mem_cons_of_mem _ he)
    refine ⟨p :: ps, by rw [D.pys, h1, Option.bind_some, g1]; rfl, ?_, ?_, ?_, ?_, ?_, ?_⟩
    · simp only [PyData.showableAll, h2, g2, Bool.and_self]
    · simp only [PyData.hasDictAll, h3, g3, Bool.or_self]
    · simp only [PyData.depthAll]; omega
    · simp only [PyData.leavesShortAll, h5, g5, Bool.and_self]
    · simp only [PyData.bulkAll, List.length_cons]
      have : (n + 1) * (ds.length + 1) = (n + 1) * ds.length + (n + 1) := by rw [Nat.mul_add, Nat.mul_one]
      omega
    · simp only [PyData.canLayAll0, h7, g7, Bool.and_self]
theorem pl_lst {k n : Nat} {ds : List D} (h : ∀ d ∈ ds, Pl k n d) : Pl (k + 1) ((n + 1) * ds.length) (.lst ds) := by
  obtain ⟨ps, g1, g2, g3, g4, g5, g6, g7⟩ := pl_all h
  refine ⟨.list ps, by show (D.pys ds).map PyData.list = _; rw [g1]; rfl, ?_, ?_, ?_, ?_, ?_, ?_⟩
  · simpa only [PyData.showable] using g2
  · simpa only [PyData.hasDict] using g3
  · simp only [PyData.depth]; omega
  · simpa only [PyData.leavesShort] using g5
  · simpa only [PyData.bulk] using g6
  · simpa only [PyData.canLay0] using g7
theorem pl_tup {k n : Nat} {ds : List D} (h : ∀ d ∈ ds, Pl k n d) : Pl (k + 1) ((n + 1) * ds.length) (.tup ds) := by
  obtain ⟨ps, g1, g2, g3, g4, g5, g6, g7⟩ := pl_all h
  refine ⟨.tuple ps, by show (D.pys ds).map PyData.tuple = _; rw [g1]; rfl, ?_, ?_, ?_, ?_, ?_, ?_⟩
  · simpa only [PyData.showable] using g2
  · simpa only [PyData.hasDict] using g3
  · simp only [PyData.depth]; omega
  · simpa only [PyData.leavesShort] using g5
  · simpa only [PyData.bulk] using g6
  · simpa only [PyData.canLay0] using g7
theorem pl_nil {k n : Nat} : ∀ d ∈ ([] : List D), Pl k n d := fun d h => absurd h List.not_mem_nil
theorem pl_cons {k n : Nat} {d : D} {ds : List D} (h : Pl k n d) (r : ∀ d ∈ ds, Pl k n d) : ∀ e ∈ d :: ds, Pl k n e := fun e he => by
  rcases List.mem_cons.mp he with rfl | he
  · exact h
  · exact r e he
theorem Pl.shaped {k n : Nat} {d : D} (h : Pl k n d) (hk : k ≤ 8) : ∃ p, D.py d = some p ∧ SeqAt.shaped p = true := by
  obtain ⟨p, h1, h2, h3, h4, h5, h6, h7⟩ := h
  refine ⟨p, h1, ?_⟩
  show (p.canLay0 && decide (p.depth ≤ 64)) = true
  rw [h7, decide_eq_true (show p.depth ≤ 64 by omega)]
  rfl
theorem Pl.repr {k n : Nat} {d : D} (h : Pl k n d) (hk : k ≤ 8) (hn : n ≤ 16000) : ∃ s, b_repr [d] = some (.str s) := by
  obtain ⟨p, h1, h2, h3, h4, h5, h6, h7⟩ := h
  have hs : p.shown.length ≤ sizeLine := by
    have e := PyData.shown_le_bulk 1002 (by decide) p h5
    have : sizeLine = 16777216 := sizeLine_eq
    omega
  have hr : reprP p = some p.shown := by
    unfold reprP
    rw [if_pos ⟨h2, h3, by omega, hs⟩]
  suffices hh : ∃ s, reprD d = some s by
    obtain ⟨s, e⟩ := hh
    exact ⟨s, by show (reprD d).map D.str = _; rw [e]; rfl⟩
  cases d with
  | non => exact ⟨_, rfl⟩
  | bl b => exact ⟨_, rfl⟩
  | int i =>
    cases h1
    have : i.natAbs.log2 < 1920 := by simpa only [PyData.showable, decide_eq_true_eq] using h2
    exact ⟨_, if_pos this⟩
  | str s =>
    cases h1
    have : (reprText s).length ≤ sizeLine := by simpa only [PyData.shown] using hs
    exact ⟨_, if_pos this⟩
  | tup ds =>
    obtain ⟨ps, e1, rfl⟩ := Option.map_eq_some_iff.mp (show (D.pys ds).map PyData.tuple = some p from h1)
    refine ⟨(PyData.tuple ps).shown, ?_⟩
    show (D.pys ds).bind (fun ps => reprP (.tuple ps)) = _
    rw [e1]
    exact hr
  | lst ds =>
    obtain ⟨ps, e1, rfl⟩ := Option.map_eq_some_iff.mp (show (D.pys ds).map PyData.list = some p from h1)
    refine ⟨(PyData.list ps).shown, ?_⟩
    show (D.pys ds).bind (fun ps => reprP (.list ps)) = _
    rw [e1]
    exact hr
  | slst ns =>
    cases h1
    exact ⟨_, hr⟩
  | _ => cases h1
theorem eqB_py {a b : D} {p q : PyData} (ha : D.py a = some p) (hb : D.py b = some q) (h1 : SeqAt.shaped p = true) (h2 : SeqAt.shaped q = true) : eqB a b = some (PyData.eqv p q) := by
  have gen : (match D.py a, D.py b with
      | some p, some q => if SeqAt.shaped p = true ∧ SeqAt.shaped q = true then some (PyData.eqv p q) else none
      | _, _ => none) = some (PyData.eqv p q) := by
    rw [ha, hb]
    exact if_pos ⟨h1, h2⟩
  unfold eqB
  split
  · cases ha; cases hb; simp [PyData.eqv, Bool.beq_eq_decide_eq]
  · cases ha; cases hb; simp [PyData.eqv, Bool.beq_eq_decide_eq]
  · rename_i i j; cases ha; cases hb; cases i <;> cases j <;> simp [PyData.eqv]
  · exact gen
theorem Pl.same {k n : Nat} {d : D} (h : Pl k n d) (hk : k ≤ 8) : eqB d d = some true := by
  obtain ⟨p, h1, h2⟩ := h.shaped hk
  rw [eqB_py h1 h1 h2 h2, Lk.eqv_same h2]
theorem Pl.eqD {k n : Nat} {d : D} (h : Pl k n d) (hk : k ≤ 8 := by decide) : eqD d d = some (.bl true) := by
  show (eqB d d).map D.bl = _
  rw [h.same hk]
  rfl
theorem Pl.neD {k n : Nat} {d : D} (h : Pl k n d) (hk : k ≤ 8 := by decide) : neD d d = some (.bl false) := by
  show (eqB d d).map (fun c => D.bl (!c)) = _
  rw [h.same hk]
  rfl
end Mi

set_option Elab.async false
set_option linter.all false
set_option maxRecDepth 100000
set_option maxHeartbeats 4000000
namespace Lw
open PySem PySem.Spec PyProof.Rows L2 Mi

def topS (i : Nat) : Stmt := PySem.Challenge.pw_lacekeys_k27_cells_in_order_by_all_words.main.body.getD i (.Pass ⟨0, 0, 0, 0⟩)
abbrev slaw_bag : Stmt := topS 17
theorem sclaw_bag : FnScope ["cell"] ["cell"] (defScope slaw_bag) := ⟨rfl, rfl, rfl, by decide +kernel, rfl, by decide +kernel, by decide +kernel⟩
abbrev slaw_pick : Stmt := topS 18
theorem sclaw_pick : FnScope ["bag", "many", "told", "seed", "turn", "first", "second", "drawn"] ["bag", "many"] (defScope slaw_pick) := ⟨rfl, rfl, rfl, by decide +kernel, rfl, by decide +kernel, by decide +kernel⟩
abbrev slaw_key : Stmt := topS 19
theorem sclaw_key : FnScope ["word", "x", "y", "found", "i", "j", "letter"] ["word", "x", "y"] (defScope slaw_key) := ⟨rfl, rfl, rfl, by decide +kernel, rfl, by decide +kernel, by decide +kernel⟩
abbrev slaw_words : Stmt := topS 21
theorem sclaw_words : FnScope ["x_bits", "y_bits", "found", "turn", "longer", "word"] ["x_bits", "y_bits"] (defScope slaw_words) := ⟨rfl, rfl, rfl, by decide +kernel, rfl, by decide +kernel, by decide +kernel⟩
abbrev scount_x_ahead : Stmt := topS 15
theorem sccount_x_ahead : FnScope ["x_bits", "y_bits", "x_place", "y_place", "many"] ["x_bits", "y_bits", "x_place", "y_place"] (defScope scount_x_ahead) := ⟨rfl, rfl, rfl, by decide +kernel, rfl, by decide +kernel, by decide +kernel⟩
abbrev sis_integer : Stmt := topS 7
theorem scis_integer : FnScope ["value"] ["value"] (defScope sis_integer) := ⟨rfl, rfl, rfl, by decide +kernel, rfl, by decide +kernel, by decide +kernel⟩
abbrev sis_between : Stmt := topS 8
theorem scis_between : FnScope ["value", "low", "high"] ["value", "low", "high"] (defScope sis_between) := ⟨rfl, rfl, rfl, by decide +kernel, rfl, by decide +kernel, by decide +kernel⟩
abbrev scheck_bits : Stmt := topS 11
theorem sccheck_bits : FnScope ["x_bits", "y_bits"] ["x_bits", "y_bits"] (defScope scheck_bits) := ⟨rfl, rfl, rfl, by decide +kernel, rfl, by decide +kernel, by decide +kernel⟩
abbrev sare_integers : Stmt := topS 9
theorem scare_integers : FnScope ["value", "many", "part"] ["value", "many"] (defScope sare_integers) := ⟨rfl, rfl, rfl, by decide +kernel, rfl, by decide +kernel, by decide +kernel⟩
abbrev sis_cell : Stmt := topS 10
theorem scis_cell : FnScope ["value", "x_bits", "y_bits", "x", "y"] ["value", "x_bits", "y_bits"] (defScope sis_cell) := ⟨rfl, rfl, rfl, by decide +kernel, rfl, by decide +kernel, by decide +kernel⟩
abbrev scheck_cell : Stmt := topS 12
theorem sccheck_cell : FnScope ["cell", "x_bits", "y_bits"] ["cell", "x_bits", "y_bits"] (defScope scheck_cell) := ⟨rfl, rfl, rfl, by decide +kernel, rfl, by decide +kernel, by decide +kernel⟩
abbrev scount_ahead : Stmt := topS 14
theorem sccount_ahead : FnScope ["x_bits", "y_bits", "cell", "other", "x1", "y1", "x2", "y2", "words", "x_ahead"] ["x_bits", "y_bits", "cell", "other"] (defScope scount_ahead) := ⟨rfl, rfl, rfl, by decide +kernel, rfl, by decide +kernel, by decide +kernel⟩
abbrev slaw_right : Stmt := topS 22
theorem sclaw_right : FnScope ["x_bits", "y_bits", "cell", "other", "due", "word"] ["x_bits", "y_bits", "cell", "other"] (defScope slaw_right) := ⟨rfl, rfl, rfl, by decide +kernel, rfl, by decide +kernel, by decide +kernel⟩
abbrev slaw_some_cell : Stmt := topS 23
theorem sclaw_some_cell : FnScope ["bag", "x_bits", "y_bits"] ["bag", "x_bits", "y_bits"] (defScope slaw_some_cell) := ⟨rfl, rfl, rfl, by decide +kernel, rfl, by decide +kernel, by decide +kernel⟩
abbrev slaw : Stmt := topS 24
theorem sclaw : FnScope ["script", "k", "cell", "bag", "most", "turn", "x_bits", "y_bits", "one", "two", "told", "other"] ["script"] (defScope slaw) := ⟨rfl, rfl, rfl, by decide +kernel, rfl, by decide +kernel, by decide +kernel⟩
structure Ads where
  C_InvalidBits : Addr
  C_InvalidCell : Addr
  f_law_bag : Addr
  d_law_bag : FuncData
  f_law_pick : Addr
  d_law_pick : FuncData
  f_law_key : Addr
  d_law_key : FuncData
  f_law_words : Addr
  d_law_words : FuncData
  f_count_x_ahead : Addr
  d_count_x_ahead : FuncData
  f_is_integer : Addr
  d_is_integer : FuncData
  f_is_between : Addr
  d_is_between : FuncData
  f_check_bits : Addr
  d_check_bits : FuncData
  f_are_integers : Addr
  d_are_integers : FuncData
  f_is_cell : Addr
  d_is_cell : FuncData
  f_check_cell : Addr
  d_check_cell : FuncData
  f_count_ahead : Addr
  d_count_ahead : FuncData
  f_law_right : Addr
  d_law_right : FuncData
  f_law_some_cell : Addr
  d_law_some_cell : FuncData
  f_law : Addr
  d_law : FuncData
structure Top (K : PySem.W.Frag) (mg : Str → Option Value) (Z : Ads) : Prop where
  F_law_bag : Fun K "_law_bag" "_law_bag" slaw_bag Z.f_law_bag Z.d_law_bag
  b_law_bag : Binds K Z.d_law_bag ["cell"] []
  m_law_bag : mg "_law_bag" = some (.ref Z.f_law_bag)
  F_law_pick : Fun K "_law_pick" "_law_pick" slaw_pick Z.f_law_pick Z.d_law_pick
  b_law_pick : Binds K Z.d_law_pick ["bag", "many"] []
  m_law_pick : mg "_law_pick" = some (.ref Z.f_law_pick)
  F_law_key : Fun K "_law_key" "_law_key" slaw_key Z.f_law_key Z.d_law_key
  b_law_key : Binds K Z.d_law_key ["word", "x", "y"] []
  m_law_key : mg "_law_key" = some (.ref Z.f_law_key)
  F_law_words : Fun K "_law_words" "_law_words" slaw_words Z.f_law_words Z.d_law_words
  b_law_words : Binds K Z.d_law_words ["x_bits", "y_bits"] []
  m_law_words : mg "_law_words" = some (.ref Z.f_law_words)
  F_count_x_ahead : Fun K "_count_x_ahead" "_count_x_ahead" scount_x_ahead Z.f_count_x_ahead Z.d_count_x_ahead
  b_count_x_ahead : Binds K Z.d_count_x_ahead ["x_bits", "y_bits", "x_place", "y_place"] []
  m_count_x_ahead : mg "_count_x_ahead" = some (.ref Z.f_count_x_ahead)
  F_is_integer : Fun K "is_integer" "is_integer" sis_integer Z.f_is_integer Z.d_is_integer
  b_is_integer : Binds K Z.d_is_integer ["value"] []
  m_is_integer : mg "is_integer" = some (.ref Z.f_is_integer)
  F_is_between : Fun K "is_between" "is_between" sis_between Z.f_is_between Z.d_is_between
  b_is_between : Binds K Z.d_is_between ["value", "low", "high"] []
  m_is_between : mg "is_between" = some (.ref Z.f_is_between)
  F_check_bits : Fun K "check_bits" "check_bits" scheck_bits Z.f_check_bits Z.d_check_bits
  b_check_bits : Binds K Z.d_check_bits ["x_bits", "y_bits"] []
  m_check_bits : mg "check_bits" = some (.ref Z.f_check_bits)
  F_are_integers : Fun K "are_integers" "are_integers" sare_integers Z.f_are_integers Z.d_are_integers
  b_are_integers : Binds K Z.d_are_integers ["value", "many"] []
  m_are_integers : mg "are_integers" = some (.ref Z.f_are_integers)
  F_is_cell : Fun K "is_cell" "is_cell" sis_cell Z.f_is_cell Z.d_is_cell
  b_is_cell : Binds K Z.d_is_cell ["value", "x_bits", "y_bits"] []
  m_is_cell : mg "is_cell" = some (.ref Z.f_is_cell)
  F_check_cell : Fun K "check_cell" "check_cell" scheck_cell Z.f_check_cell Z.d_check_cell
  b_check_cell : Binds K Z.d_check_cell ["cell", "x_bits", "y_bits"] []
  m_check_cell : mg "check_cell" = some (.ref Z.f_check_cell)
  F_count_ahead : Fun K "count_ahead" "count_ahead" scount_ahead Z.f_count_ahead Z.d_count_ahead
  b_count_ahead : Binds K Z.d_count_ahead ["x_bits", "y_bits", "cell", "other"] []
  m_count_ahead : mg "count_ahead" = some (.ref Z.f_count_ahead)
  F_law_right : Fun K "_law_right" "_law_right" slaw_right Z.f_law_right Z.d_law_right
  b_law_right : Binds K Z.d_law_right ["x_bits", "y_bits", "cell", "other"] []
  m_law_right : mg "_law_right" = some (.ref Z.f_law_right)
  F_law_some_cell : Fun K "_law_some_cell" "_law_some_cell" slaw_some_cell Z.f_law_some_cell Z.d_law_some_cell
  b_law_some_cell : Binds K Z.d_law_some_cell ["bag", "x_bits", "y_bits"] []
  m_law_some_cell : mg "_law_some_cell" = some (.ref Z.f_law_some_cell)
  F_law : Fun K "law" "law" slaw Z.f_law Z.d_law
  b_law : Binds K Z.d_law ["script"] []
  m_law : mg "law" = some (.ref Z.f_law)
  m_InvalidBits : mg "InvalidBits" = some (.ref Z.C_InvalidBits)
  m_InvalidCell : mg "InvalidCell" = some (.ref Z.C_InvalidCell)
  x_InvalidBits : PySem.W.excIn K Z.C_InvalidBits [.type "ValueError", .type "Exception", .type "BaseException", .type "object"] "ValueError.__new__" = true
  k_InvalidBits : PySem.W.keepIn K (.ref Z.C_InvalidBits) = true
  rb_InvalidBits : PySem.W.subIn K (.ref Z.C_InvalidBits) (.type "BaseException") = some true
  rt_InvalidBits : PySem.W.typeIn K (.ref Z.C_InvalidBits) = some (.type "type")
  x_InvalidCell : PySem.W.excIn K Z.C_InvalidCell [.type "ValueError", .type "Exception", .type "BaseException", .type "object"] "ValueError.__new__" = true
  k_InvalidCell : PySem.W.keepIn K (.ref Z.C_InvalidCell) = true
  rb_InvalidCell : PySem.W.subIn K (.ref Z.C_InvalidCell) (.type "BaseException") = some true
  rt_InvalidCell : PySem.W.typeIn K (.ref Z.C_InvalidCell) = some (.type "type")
  z_all : mg "all" = none
  z_bool : mg "bool" = none
  z_enumerate : mg "enumerate" = none
  z_int : mg "int" = none
  z_isinstance : mg "isinstance" = none
  z_len : mg "len" = none
  z_max : mg "max" = none
  z_range : mg "range" = none
  z_repr : mg "repr" = none
  z_sum : mg "sum" = none
  z_tuple : mg "tuple" = none
  m_MOST_BITS : ∃ t, mg "MOST_BITS" = some (.int 100 t)
  m_comb : mg "comb" = some (.builtin "math.comb")
def caZ (Z : Ads) (n : String) : Addr := if n = "InvalidBits" then Z.C_InvalidBits else if n = "InvalidCell" then Z.C_InvalidCell else 0
abbrev ga (K : PySem.W.Frag) (Z : Ads) : Ga := ⟨K, caZ Z⟩
theorem ca_InvalidBits {K : PySem.W.Frag} {Z : Ads} : (ga K Z).ca "InvalidBits" = Z.C_InvalidBits := by simp [ga, caZ]
theorem ca_InvalidCell {K : PySem.W.Frag} {Z : Ads} : (ga K Z).ca "InvalidCell" = Z.C_InvalidCell := by simp [ga, caZ]
theorem dtc_InvalidBits {K : PySem.W.Frag} {Z : Ads} {H : Hp} : Dt (ga K Z) H (.ref Z.C_InvalidBits) (.cls "InvalidBits") := by
  have h := Dt.cls (Γ := ga K Z) (H := H) "InvalidBits"
  rw [ca_InvalidBits] at h
  exact h
theorem dtc_InvalidCell {K : PySem.W.Frag} {Z : Ads} {H : Hp} : Dt (ga K Z) H (.ref Z.C_InvalidCell) (.cls "InvalidCell") := by
  have h := Dt.cls (Γ := ga K Z) (H := H) "InvalidCell"
  rw [ca_InvalidCell] at h
  exact h
def itab : ITab := [((true, "NoneType"), (true, "bool"), false),
  ((true, "bool"), (true, "bool"), true),
  ((true, "int"), (true, "bool"), false),
  ((true, "str"), (true, "bool"), false),
  ((true, "tuple"), (true, "bool"), false),
  ((true, "list"), (true, "bool"), false),
  ((true, "dict"), (true, "bool"), false),
  ((true, "NoneType"), (true, "int"), false),
  ((true, "bool"), (true, "int"), true),
  ((true, "int"), (true, "int"), true),
  ((true, "str"), (true, "int"), false),
  ((true, "tuple"), (true, "int"), false),
  ((true, "list"), (true, "int"), false),
  ((true, "dict"), (true, "int"), false),
  ((true, "NoneType"), (true, "tuple"), false),
  ((true, "bool"), (true, "tuple"), false),
  ((true, "int"), (true, "tuple"), false),
  ((true, "str"), (true, "tuple"), false),
  ((true, "tuple"), (true, "tuple"), true),
  ((true, "list"), (true, "tuple"), false),
  ((true, "dict"), (true, "tuple"), false)]
theorem itab_ok {K : PySem.W.Frag} {mg : Str → Option Value} {Z : Ads} (T : Top K mg Z) : itab.Ok (ga K Z) := by
  intro e he
  simp only [itab, List.mem_cons, List.not_mem_nil, or_false] at he
  rcases he with rfl | rfl | rfl | rfl | rfl | rfl | rfl | rfl | rfl | rfl | rfl | rfl | rfl | rfl | rfl | rfl | rfl | rfl | rfl | rfl | rfl
  · exact ⟨kit_ty (by decide +kernel), fun z => by cases z⟩
  · exact ⟨kit_ty (by decide +kernel), fun z => by cases z⟩
  · exact ⟨kit_ty (by decide +kernel), fun z => by cases z⟩
  · exact ⟨kit_ty (by decide +kernel), fun z => by cases z⟩
  · exact ⟨kit_ty (by decide +kernel), fun z => by cases z⟩
  · exact ⟨kit_ty (by decide +kernel), fun z => by cases z⟩
  · exact ⟨kit_ty (by decide +kernel), fun z => by cases z⟩
  · exact ⟨kit_ty (by decide +kernel), fun z => by cases z⟩
  · exact ⟨kit_ty (by decide +kernel), fun z => by cases z⟩
  · exact ⟨kit_ty (by decide +kernel), fun z => by cases z⟩
  · exact ⟨kit_ty (by decide +kernel), fun z => by cases z⟩
  · exact ⟨kit_ty (by decide +kernel), fun z => by cases z⟩
  · exact ⟨kit_ty (by decide +kernel), fun z => by cases z⟩
  · exact ⟨kit_ty (by decide +kernel), fun z => by cases z⟩
  · exact ⟨kit_ty (by decide +kernel), fun z => by cases z⟩
  · exact ⟨kit_ty (by decide +kernel), fun z => by cases z⟩
  · exact ⟨kit_ty (by decide +kernel), fun z => by cases z⟩
  · exact ⟨kit_ty (by decide +kernel), fun z => by cases z⟩
  · exact ⟨kit_ty (by decide +kernel), fun z => by cases z⟩
  · exact ⟨kit_ty (by decide +kernel), fun z => by cases z⟩
  · exact ⟨kit_ty (by decide +kernel), fun z => by cases z⟩
noncomputable section
variable {P : Program} {w : World} {K : PySem.W.Frag} {mg : Str → Option Value} {base : Heap}
def fn_law_bag : FnD := runF [false] false 1
  (sRet (eLst (aCons (eB b_max2 (aCons (eC (.int 0)) (aCons (e2 subD (eV 0) (e2 powD (eC (.int 10)) (eC (.int 18)))) aNil))) (aCons (eV 0) (aCons (eC (.int 0)) aNil)))))
theorem ok_law_bag {Z : Ads} (T : Top K mg Z) : Lk.FnG P w K mg base 1 Z.f_law_bag Z.d_law_bag ["cell"] (spM0 (ga K Z) [false] .own fn_law_bag) := by
  refine Lk.okG T.F_law_bag sclaw_bag (fun vs H Q E h => spM.len h) (fun cdv A outer s H vs Q E hgd hr h => ?_)
  refine ⟨_, ?_, fn_body0 (cs := []) (c' := []) h rfl rfl (by decide) (fun z => by cases z)⟩
  exact (mss_one (ms_ret (me_lst (ks := [.full, .full, .full]) (ma_cons (k := .full) (me_callB (call_max2 (by rfl)) so_max2 (by rfl) T.z_max (by decide +kernel) (ma_cons (k := .full) me_int (ma_cons (k := .full) (me_op op_sub so_sub (me_v (i := 0) (pv 0)) (me_root (me_op Lk.op_powB so_pow me_int (me_root me_int)))) ma_nil))) (ma_cons (k := .full) (me_v (i := 0) (pv 0)) (ma_cons (k := .full) me_int ma_nil))))))
def fn_law_pick : FnD := runF [true, false] false 8
  (sSeq (sSub 0 (e2 addD (e2 ixD (eV 0) (eC (.int 2))) (eC (.int 1))) (eC (.int 2)))
  (sSeq (sIf (e2 gtD (e2 ixD (eV 0) (eC (.int 0))) (eC (.int 0)))
  (sSeq (sSet 2 (e2 modD (eB b_int (aCons (e2 ixD (eV 0) (eC (.int 0))) aNil)) (eV 1)))
  (sSeq (sSub 0 (e2 divD (eB b_int (aCons (e2 ixD (eV 0) (eC (.int 0))) aNil)) (eV 1)) (eC (.int 0)))
  (sRet (eV 2))))
  sNext)
  (sSeq (sPar [3, 4] (aCons (eB b_int (aCons (e2 ixD (eV 0) (eC (.int 1))) aNil)) (aCons (eB b_int (aCons (e2 ixD (eV 0) (eC (.int 2))) aNil)) aNil)))
  (sSeq (sSet 5 (e2 modD (eB b_int (aCons (e2 addD (e2 addD (e2 mulD (e2 modD (eV 3) (eC (.int 2147483629))) (eC (.int 48271))) (e2 mulD (eV 4) (eC (.int 69621)))) (eC (.int 12345))) aNil)) (eC (.int 2147483647))))
  (sSeq (sSet 6 (e2 modD (eB b_int (aCons (e2 addD (e2 mulD (eV 5) (eV 5)) (e2 mulD (eV 4) (eC (.int 40692)))) aNil)) (eC (.int 2147483587))))
  (sSeq (sSet 7 (e2 divD (eB b_int (aCons (e2 addD (e2 mulD (eV 5) (eC (.int 2147483587))) (eV 6)) aNil)) (eC (.int 32))))
  (sSeq (sIf (e2 gtD (eV 1) (e2 powD (eC (.int 10)) (eC (.int 15))))
  (sSet 7 (e2 addD (e2 powD (eV 7) (eC (.int 8))) (eV 6)))
  sNext)
  (sRet (e2 modD (eB b_int (aCons (eV 7) aNil)) (eV 1))))))))))
theorem ok_law_pick {Z : Ads} (T : Top K mg Z) : Lk.FnG P w K mg base 1 Z.f_law_pick Z.d_law_pick ["bag", "many"] (spM0 (ga K Z) [true, false] .full fn_law_pick) := by
  refine Lk.okG T.F_law_pick sclaw_pick (fun vs H Q E h => spM.len h) (fun cdv A outer s H vs Q E hgd hr h => ?_)
  refine ⟨_, ?_, fn_body0 (cs := [0]) (c' := [0]) h rfl rfl (by decide) (fun z => by cases z)⟩
  exact (mss_cons (c1 := [0]) (ms_sub (i := 0) (pv 0) me_int (me_op o_add so_add (me_ixR o_ix so_ix (me_cv (i := 0) (pv 0)) (me_root me_int) (fun _ _ => rfl)) (me_root me_int)) (fun he hk => ps_asg he (pg_sub (pv 0) hk set_list)))
      (mss_cons (c1 := [0]) (ms_if (cs' := [0]) (mt_cmp op_gt so_gt (me_ixR o_ix so_ix (me_cv (i := 0) (pv 0)) (me_root me_int) (fun _ _ => rfl)) (me_root me_int) (nomark _))
        (mss_cons (c1 := [0]) (ms_set (i := 2) sclaw_pick.nd rfl (.inl rfl) (me_op op_mod so_mod (me_callTy call_int1 so_int1 (by rfl) T.z_int (by decide +kernel) (ma_consR (me_root (me_ixR o_ix so_ix (me_cv (i := 0) (pv 0)) (me_root me_int) (fun _ _ => rfl))) ma_nil)) (me_root (me_v (i := 1) (pv 1)))))
      (mss_cons (c1 := [0]) (ms_sub (i := 0) (pv 0) me_int (me_op op_fdivW so_div (me_callTy call_int1 so_int1 (by rfl) T.z_int (by decide +kernel) (ma_consR (me_root (me_ixR o_ix so_ix (me_cv (i := 0) (pv 0)) (me_root me_int) (fun _ _ => rfl))) ma_nil)) (me_root (me_v (i := 1) (pv 1)))) (fun he hk => ps_asg he (pg_sub (pv 0) hk set_list)))
      (mss_one (ms_ret (me_v (i := 2) (pv 2))))))
        mss_nil)
      (mss_cons (c1 := [0]) (ms_par2 (i := 3) (j := 4) (cs' := [0]) (ks := [.full, .full]) (fun _ h => ps_par (i := 3) (j := 4) (by rfl) sclaw_pick.nd rfl rfl (by decide) rfl rfl h (by rfl)) (ma_cons (k := .full) (me_callTy call_int1 so_int1 (by rfl) T.z_int (by decide +kernel) (ma_consR (me_root (me_ixR o_ix so_ix (me_cv (i := 0) (pv 0)) (me_root me_int) (fun _ _ => rfl))) ma_nil)) (ma_cons (k := .full) (me_callTy call_int1 so_int1 (by rfl) T.z_int (by decide +kernel) (ma_consR (me_root (me_ixR o_ix so_ix (me_cv (i := 0) (pv 0)) (me_root me_int) (fun _ _ => rfl))) ma_nil)) ma_nil)))
      (mss_cons (c1 := [0]) (ms_set (i := 5) sclaw_pick.nd rfl (.inl rfl) (me_op op_mod so_mod (me_callTy call_int1 so_int1 (by rfl) T.z_int (by decide +kernel) (ma_consR (me_root (me_op o_add so_add (me_op o_add so_add (me_op o_mul so_mul (me_op op_mod so_mod (me_v (i := 3) (pv 3)) (me_root me_int)) (me_root me_int)) (me_root (me_op o_mul so_mul (me_v (i := 4) (pv 4)) (me_root me_int)))) (me_root me_int))) ma_nil)) (me_root me_int)))
      (mss_cons (c1 := [0]) (ms_set (i := 6) sclaw_pick.nd rfl (.inl rfl) (me_op op_mod so_mod (me_callTy call_int1 so_int1 (by rfl) T.z_int (by decide +kernel) (ma_consR (me_root (me_op o_add so_add (me_op o_mul so_mul (me_v (i := 5) (pv 5)) (me_root (me_v (i := 5) (pv 5)))) (me_root (me_op o_mul so_mul (me_v (i := 4) (pv 4)) (me_root me_int))))) ma_nil)) (me_root me_int)))
      (mss_cons (c1 := [0]) (ms_set (i := 7) sclaw_pick.nd rfl (.inl rfl) (me_op op_fdivW so_div (me_callTy call_int1 so_int1 (by rfl) T.z_int (by decide +kernel) (ma_consR (me_root (me_op o_add so_add (me_op o_mul so_mul (me_v (i := 5) (pv 5)) (me_root me_int)) (me_root (me_v (i := 6) (pv 6))))) ma_nil)) (me_root me_int)))
      (mss_cons (c1 := [0]) (ms_if (cs' := [0]) (mt_cmp op_gt so_gt (me_v (i := 1) (pv 1)) (me_root (me_op Lk.op_powB so_pow me_int (me_root me_int))) (nomark _))
        (mss_one (ms_set (i := 7) sclaw_pick.nd rfl (.inl rfl) (me_op o_add so_add (me_op Lk.op_powB so_pow (me_v (i := 7) (pv 7)) (me_root me_int)) (me_root (me_v (i := 6) (pv 6))))))
        mss_nil)
      (mss_one (ms_ret (me_op op_mod so_mod (me_callTy call_int1 so_int1 (by rfl) T.z_int (by decide +kernel) (ma_consR (me_root (me_v (i := 7) (pv 7))) ma_nil)) (me_root (me_v (i := 1) (pv 1)))))))))))))
def fn_law_key : FnD := runF [false, false, false] false 7
  (sSeq (sPar [3, 4, 5] (aCons (eC (.int 0)) (aCons (eTxt m_count (eV 0) (aCons (eC (.str "x")) aNil)) (aCons (eTxt m_count (eV 0) (aCons (eC (.str "y")) aNil)) aNil))))
  (sSeq (sFor (.nm 6) (iS (eV 0))
  (sIf (e2 eqD (eV 6) (eC (.str "x")))
  (sSeq (sSet 4 (e2 subD (eV 4) (eC (.int 1))))
  (sSet 3 (e2 addD (e2 mulD (eC (.int 2)) (eV 3)) (e2 andD (e2 shrD (eV 1) (eV 4)) (eC (.int 1))))))
  (sSeq (sSet 5 (e2 subD (eV 5) (eC (.int 1))))
  (sSet 3 (e2 addD (e2 mulD (eC (.int 2)) (eV 3)) (e2 andD (e2 shrD (eV 2) (eV 5)) (eC (.int 1))))))))
  (sRet (eV 3))))
theorem ok_law_key {Z : Ads} (T : Top K mg Z) : Lk.FnG P w K mg base 1 Z.f_law_key Z.d_law_key ["word", "x", "y"] (spM0 (ga K Z) [false, false, false] .full fn_law_key) := by
  refine Lk.okG T.F_law_key sclaw_key (fun vs H Q E h => spM.len h) (fun cdv A outer s H vs Q E hgd hr h => ?_)
  refine ⟨_, ?_, fn_body0 (cs := []) (c' := []) h rfl rfl (by decide) (fun z => by cases z)⟩
  exact (mss_cons (c1 := []) (ms_par3 (i := 3) (j := 4) (l := 5) (cs' := []) (ks := [.full, .full, .full]) (fun _ h => ps_par3 (i := 3) (j := 4) (l := 5) (by rfl) sclaw_key.nd rfl rfl rfl (by decide) (by decide) (by decide) rfl rfl rfl h (by rfl)) (ma_cons (k := .full) me_int (ma_cons (k := .full) (me_txt (ks := [.full]) so_count (fun ho ha => pe_bm PySem.F.plainAttrs_str PySem.F.slot_str_count PySem.F.type_str_count mt_count ho ha) (me_v (i := 0) (pv 0)) (ma_cons (k := .full) me_str ma_nil)) (ma_cons (k := .full) (me_txt (ks := [.full]) so_count (fun ho ha => pe_bm PySem.F.plainAttrs_str PySem.F.slot_str_count PySem.F.type_str_count mt_count ho ha) (me_v (i := 0) (pv 0)) (ma_cons (k := .full) me_str ma_nil)) ma_nil))))
      (mss_cons (c1 := []) (ms_for PassesOwn.never rfl (mi_str (me_v (i := 0) (pv 0))) (mg_nm (pg_name (i := 6) sclaw_key.nd rfl (.inl rfl)))
        (mss_one (ms_if (cs' := []) (mt_cmp (o_eq (Lk.hu_of' hr)) so_eq (me_v (i := 6) (pv 6)) (me_root me_str) (nomark _))
        (mss_cons (c1 := []) (ms_set (i := 4) sclaw_key.nd rfl (.inl rfl) (me_op op_sub so_sub (me_v (i := 4) (pv 4)) (me_root me_int)))
      (mss_one (ms_set (i := 3) sclaw_key.nd rfl (.inl rfl) (me_op o_add so_add (me_op o_mul so_mul me_int (me_root (me_v (i := 3) (pv 3)))) (me_root (me_op op_and so_and (me_op op_shr so_shr (me_v (i := 1) (pv 1)) (me_root (me_v (i := 4) (pv 4)))) (me_root me_int)))))))
        (mss_cons (c1 := []) (ms_set (i := 5) sclaw_key.nd rfl (.inl rfl) (me_op op_sub so_sub (me_v (i := 5) (pv 5)) (me_root me_int)))
      (mss_one (ms_set (i := 3) sclaw_key.nd rfl (.inl rfl) (me_op o_add so_add (me_op o_mul so_mul me_int (me_root (me_v (i := 3) (pv 3)))) (me_root (me_op op_and so_and (me_op op_shr so_shr (me_v (i := 2) (pv 2)) (me_root (me_v (i := 5) (pv 5)))) (me_root me_int))))))))))
      (mss_one (ms_ret (me_v (i := 3) (pv 3))))))
def fn_law_words : FnD := runF [false, false] false 6
  (sSeq (sSet 2 (eLst (aCons (eC (.str "")) aNil)))
  (sSeq (sFor (.nm 3) (iA k_rng1 (aCons (e2 addD (eV 0) (eV 1)) aNil))
  (sSeq (sSet 4 (eComp [5] (.nm 5) (some (e2 ltD (eTxt m_count (eV 5) (aCons (eC (.str "x")) aNil)) (eV 0))) (e2 addD (eV 5) (eC (.str "x"))) (iL (eV 2))))
  (sSet 2 (e2 addD (eV 4) (eComp [5] (.nm 5) (some (e2 ltD (eTxt m_count (eV 5) (aCons (eC (.str "y")) aNil)) (eV 1))) (e2 addD (eV 5) (eC (.str "y"))) (iL (eV 2)))))))
  (sRet (eV 2))))
theorem ok_law_words {Z : Ads} (T : Top K mg Z) : Lk.FnG P w K mg base 1 Z.f_law_words Z.d_law_words ["x_bits", "y_bits"] (spM0 (ga K Z) [false, false] .full fn_law_words) := by
  refine Lk.okG T.F_law_words sclaw_words (fun vs H Q E h => spM.len h) (fun cdv A outer s H vs Q E hgd hr h => ?_)
  refine ⟨_, ?_, fn_body0 (cs := []) (c' := []) h rfl rfl (by decide) (fun z => by cases z)⟩
  exact (mss_cons (c1 := []) (ms_set (i := 2) sclaw_words.nd rfl (.inl rfl) (me_own (me_lst (ks := [.full]) (ma_cons (k := .full) me_str ma_nil))))
      (mss_cons (c1 := []) (ms_for PassesOwn.never rfl (mi_rng1 (by rfl) T.z_range (ma_cons (k := .full) (me_op o_add so_add (me_v (i := 0) (pv 0)) (me_root (me_v (i := 1) (pv 1)))) ma_nil)) (mg_nm (pg_name (i := 3) sclaw_words.nd rfl (.inl rfl)))
        (mss_cons (c1 := []) (ms_lcSet (own := [("word", 5)]) (i := 4) rfl sclaw_words.nd rfl rfl (sw_true rfl rfl rfl (by decide +kernel)) (mi_list (b := false) (hl := (me_v (i := 2) (pv 2)))) (blkOk_by (own := [("word", 5)]) (N := ["x_bits", "y_bits", "found", "turn", "longer", "word"]) (sc := defScope slaw_words) (by decide +kernel)) (fun _ _ _ _ _ => (mg_nm (pg_name (i := 5) sclaw_words.nd rfl (.inl rfl)))) (fun _ _ _ _ _ => (mts_one (mt_cmp op_lt so_lt (me_txt (ks := [.full]) so_count (fun ho ha => pe_bm PySem.F.plainAttrs_str PySem.F.slot_str_count PySem.F.type_str_count mt_count ho ha) (me_v (i := 5) (pv 5)) (ma_cons (k := .full) me_str ma_nil)) (me_root (me_v (i := 0) (pv 0))) (nomark _)))) (fun _ _ _ _ _ => (me_op o_add so_add (me_v (i := 5) (pv 5)) (me_root me_str))))
      (mss_one (ms_set (i := 2) sclaw_words.nd rfl (.inl rfl) (me_op o_add so_add (me_v (i := 4) (pv 4)) (me_ownR (me_lc (own := [("word", 5)]) rfl sclaw_words.nd (mi_list (b := false) (hl := (me_v (i := 2) (pv 2)))) (blkOk_by (own := [("word", 5)]) (N := ["x_bits", "y_bits", "found", "turn", "longer", "word"]) (sc := defScope slaw_words) (by decide +kernel)) (fun _ _ _ _ _ => (mg_nm (pg_name (i := 5) sclaw_words.nd rfl (.inl rfl)))) (fun _ _ _ _ _ => (mts_one (mt_cmp op_lt so_lt (me_txt (ks := [.full]) so_count (fun ho ha => pe_bm PySem.F.plainAttrs_str PySem.F.slot_str_count PySem.F.type_str_count mt_count ho ha) (me_v (i := 5) (pv 5)) (ma_cons (k := .full) me_str ma_nil)) (me_root (me_v (i := 1) (pv 1))) (nomark _)))) (fun _ _ _ _ _ => (me_op o_add so_add (me_v (i := 5) (pv 5)) (me_root me_str))))))))))
      (mss_one (ms_ret (me_v (i := 2) (pv 2))))))
def fn_count_x_ahead : FnD := runF [false, false, false, false] false 5
  (sRet (eB b_sum (aCons (eComp [4] (.nm 4) none (e2 mulD (eB b_comb (aCons (e2 addD (eV 2) (eV 4)) (aCons (eV 4) aNil))) (eB b_comb (aCons (e2 subD (e2 addD (e2 subD (e2 subD (eV 0) (eC (.int 1))) (eV 2)) (eV 1)) (eV 4)) (aCons (e2 subD (eV 1) (eV 4)) aNil)))) (iA k_rng1 (aCons (e2 addD (eV 3) (eC (.int 1))) aNil))) aNil)))
theorem ok_count_x_ahead {Z : Ads} (T : Top K mg Z) : FnOk P w K mg base (L2.CX P w) 1 Z.f_count_x_ahead Z.d_count_x_ahead ["x_bits", "y_bits", "x_place", "y_place"] (spM (ga K Z) [false, false, false, false] .full fn_count_x_ahead) := by
  refine T.F_count_x_ahead.okX sccount_x_ahead (fun vs H Q E h => h.len) (fun cdv A outer s H vs Q E hr h => ?_)
  refine ⟨_, ?_, fn_body (cs := []) (c' := []) h rfl rfl (by decide) (fun z => by cases z)⟩
  exact (mss_one (ms_ret (me_callB (o_sum (by rfl)) so_sum (by rfl) T.z_sum (by decide +kernel) (ma_consR (me_ownR (me_lc (own := [("many", 4)]) rfl sccount_x_ahead.nd (mi_rng1 (by rfl) T.z_range (ma_cons (k := .full) (me_op o_add so_add (me_v (i := 3) (pv 3)) (me_root me_int)) ma_nil)) (blkOk_by (own := [("many", 4)]) (N := ["x_bits", "y_bits", "x_place", "y_place", "many"]) (sc := defScope scount_x_ahead) (by decide +kernel)) (fun _ _ _ _ _ => (mg_nm (pg_name (i := 4) sccount_x_ahead.nd rfl (.inl rfl)))) (fun _ _ _ _ _ => mts_nil) (fun _ _ _ _ _ => (me_op o_mul so_mul (me_callF o_comb so_comb (by rfl) T.m_comb (ma_cons (k := .full) (me_op o_add so_add (me_v (i := 2) (pv 2)) (me_root (me_v (i := 4) (pv 4)))) (ma_cons (k := .full) (me_v (i := 4) (pv 4)) ma_nil))) (me_root (me_callF o_comb so_comb (by rfl) T.m_comb (ma_cons (k := .full) (me_op op_sub so_sub (me_op o_add so_add (me_op op_sub so_sub (me_op op_sub so_sub (me_v (i := 0) (pv 0)) (me_root me_int)) (me_root (me_v (i := 2) (pv 2)))) (me_root (me_v (i := 1) (pv 1)))) (me_root (me_v (i := 4) (pv 4)))) (ma_cons (k := .full) (me_op op_sub so_sub (me_v (i := 1) (pv 1)) (me_root (me_v (i := 4) (pv 4)))) ma_nil)))))))) ma_nil))))
def fn_is_integer : FnD := runF [false] false 1
  (sRet (eAnd (eB (b_isi itab) (aCons (eV 0) (aCons (eC (.ty "int")) aNil))) (eNot (eB (b_isi itab) (aCons (eV 0) (aCons (eC (.ty "bool")) aNil))))))
theorem ok_is_integer {Z : Ads} (T : Top K mg Z) : FnOk P w K mg base (L2.CX P w) 1 Z.f_is_integer Z.d_is_integer ["value"] (spM (ga K Z) [false] .full fn_is_integer) := by
  refine T.F_is_integer.okX scis_integer (fun vs H Q E h => h.len) (fun cdv A outer s H vs Q E hr h => ?_)
  refine ⟨_, ?_, fn_body (cs := []) (c' := []) h rfl rfl (by decide) (fun z => by cases z)⟩
  exact (mss_one (ms_ret (me_and (me_callB o_isi (so_isi (itab_ok T)) (by rfl) T.z_isinstance (by decide +kernel) (ma_cons (k := .full) (me_v (i := 0) (pv 0)) (ma_cons (k := .full) (me_c (pe_bltn (v := .ty "int") (by rfl) T.z_int (by decide +kernel) rfl) (fun _ => .ty "int")) ma_nil))) (me_one (me_not (me_callB o_isi (so_isi (itab_ok T)) (by rfl) T.z_isinstance (by decide +kernel) (ma_cons (k := .full) (me_v (i := 0) (pv 0)) (ma_cons (k := .full) (me_c (pe_bltn (v := .ty "bool") (by rfl) T.z_bool (by decide +kernel) rfl) (fun _ => .ty "bool")) ma_nil))))))))
def fn_is_between : FnD := runF [false, false, false] false 3
  (sRet (eAnd (eCall fn_is_integer [.full] (aCons (eV 0) aNil)) (eChain leD leD (eV 1) (eV 0) (eV 2))))
theorem ok_is_between {Z : Ads} (T : Top K mg Z) : FnOk P w K mg base (L2.CX P w) 2 Z.f_is_between Z.d_is_between ["value", "low", "high"] (spM (ga K Z) [false, false, false] .full fn_is_between) := by
  have G_is_integer : FnOk P w K mg base (L2.CX P w) 1 Z.f_is_integer Z.d_is_integer ["value"] (spM (ga K Z) [false] .full fn_is_integer) := (ok_is_integer T).mono (by decide)
  refine T.F_is_between.okX scis_between (fun vs H Q E h => h.len) (fun cdv A outer s H vs Q E hr h => ?_)
  refine ⟨_, ?_, fn_body (cs := []) (c' := []) h rfl rfl (by decide) (fun z => by cases z)⟩
  exact (mss_one (ms_ret (me_and (me_callX (ks := [.full]) (F := fn_is_integer) (m := .full) G_is_integer (takes_of rfl rfl rfl rfl) (hr.mono (by decide)) (by rfl) T.m_is_integer T.F_is_integer.kp T.b_is_integer (ma_cons (k := .full) (me_v (i := 0) (pv 0)) ma_nil)) (me_one (me_chain op_le op_le so_le so_le (me_v (i := 1) (pv 1)) (me_v (i := 0) (pv 0)) (me_v (i := 2) (pv 2)))))))
def fn_check_bits : FnD := runF [false, false] true 2
  (sSeq (sIf (eNot (eCall fn_is_between [.full, .full, .full] (aCons (eV 0) (aCons (eC (.int 0)) (aCons (eC (.int 100)) aNil)))))
  (sRaise "InvalidBits")
  sNext)
  (sSeq (sIf (eNot (eCall fn_is_between [.full, .full, .full] (aCons (eV 1) (aCons (eC (.int 0)) (aCons (eC (.int 100)) aNil)))))
  (sRaise "InvalidBits")
  sNext)
  (sIf (eAnd (e2 eqD (eV 0) (eC (.int 0))) (e2 eqD (eV 1) (eC (.int 0))))
  (sRaise "InvalidBits")
  sNext)))
theorem ok_check_bits {Z : Ads} (T : Top K mg Z) : FnOk P w K mg base (L2.CX P w) 3 Z.f_check_bits Z.d_check_bits ["x_bits", "y_bits"] (spM (ga K Z) [false, false] .full fn_check_bits) := by
  have G_is_between : FnOk P w K mg base (L2.CX P w) 2 Z.f_is_between Z.d_is_between ["value", "low", "high"] (spM (ga K Z) [false, false, false] .full fn_is_between) := (ok_is_between T).mono (by decide)
  obtain ⟨t_MOST_BITS, m_MOST_BITS⟩ := T.m_MOST_BITS
  refine T.F_check_bits.okX sccheck_bits (fun vs H Q E h => h.len) (fun cdv A outer s H vs Q E hr h => ?_)
  refine ⟨_, ?_, fn_body (cs := []) (c' := []) h rfl rfl (by decide) (fun _ => ⟨by rfl, by decide⟩)⟩
  exact mss_end (c1 := _) (mss_cons (c1 := []) (ms_if (cs' := []) (mt_not (mt_val (me_callX (ks := [.full, .full, .full]) (F := fn_is_between) (m := .full) G_is_between (takes_of rfl rfl rfl rfl) (hr.mono (by decide)) (by rfl) T.m_is_between T.F_is_between.kp T.b_is_between (ma_cons (k := .full) (me_v (i := 0) (pv 0)) (ma_cons (k := .full) me_int (ma_cons (k := .full) (me_c (pe_glob (v := .int 100) (by rfl) m_MOST_BITS ⟨_, rfl⟩) (fun _ => .int _)) ma_nil))))))
        (mss_one (ms_raise ca_InvalidBits rfl (takes_of rfl rfl rfl rfl) (pmk_own PySem.F.excBase_ValueError T.x_InvalidBits T.m_InvalidBits T.k_InvalidBits (raises_own T.rb_InvalidBits T.rt_InvalidBits) (by rfl))))
        mss_nil)
      (mss_cons (c1 := []) (ms_if (cs' := []) (mt_not (mt_val (me_callX (ks := [.full, .full, .full]) (F := fn_is_between) (m := .full) G_is_between (takes_of rfl rfl rfl rfl) (hr.mono (by decide)) (by rfl) T.m_is_between T.F_is_between.kp T.b_is_between (ma_cons (k := .full) (me_v (i := 1) (pv 1)) (ma_cons (k := .full) me_int (ma_cons (k := .full) (me_c (pe_glob (v := .int 100) (by rfl) m_MOST_BITS ⟨_, rfl⟩) (fun _ => .int _)) ma_nil))))))
        (mss_one (ms_raise ca_InvalidBits rfl (takes_of rfl rfl rfl rfl) (pmk_own PySem.F.excBase_ValueError T.x_InvalidBits T.m_InvalidBits T.k_InvalidBits (raises_own T.rb_InvalidBits T.rt_InvalidBits) (by rfl))))
        mss_nil)
      (mss_one (ms_if (cs' := []) (PW.pt (mw_and (mt_cmp (o_eq (Lk.hu_of' hr)) so_eq (me_v (i := 0) (pv 0)) (me_root me_int) (nomark _)) (mw_and1 (mt_cmp (o_eq (Lk.hu_of' hr)) so_eq (me_v (i := 1) (pv 1)) (me_root me_int) (nomark _)))))
        (mss_one (ms_raise ca_InvalidBits rfl (takes_of rfl rfl rfl rfl) (pmk_own PySem.F.excBase_ValueError T.x_InvalidBits T.m_InvalidBits T.k_InvalidBits (raises_own T.rb_InvalidBits T.rt_InvalidBits) (by rfl))))
        mss_nil))))
def fn_are_integers : FnD := runF [false, false] false 3
  (sSeq (sIf (eOr (eNot (eB (b_isi itab) (aCons (eV 0) (aCons (eC (.ty "tuple")) aNil)))) (e2 neD (eB b_len (aCons (eV 0) aNil)) (eV 1)))
  (sRet (eC (.bl false)))
  sNext)
  (sRet (eB b_all (aCons (eComp [2] (.nm 2) none (eCall fn_is_integer [.full] (aCons (eV 2) aNil)) (iT (eV 0))) aNil))))
theorem ok_are_integers {Z : Ads} (T : Top K mg Z) : FnOk P w K mg base (L2.CX P w) 2 Z.f_are_integers Z.d_are_integers ["value", "many"] (spM (ga K Z) [false, false] .full fn_are_integers) := by
  have G_is_integer : FnOk P w K mg base (L2.CX P w) 1 Z.f_is_integer Z.d_is_integer ["value"] (spM (ga K Z) [false] .full fn_is_integer) := (ok_is_integer T).mono (by decide)
  refine T.F_are_integers.okX scare_integers (fun vs H Q E h => h.len) (fun cdv A outer s H vs Q E hr h => ?_)
  refine ⟨_, ?_, fn_body (cs := []) (c' := []) h rfl rfl (by decide) (fun z => by cases z)⟩
  exact (mss_cons (c1 := []) (ms_if (cs' := []) (PW.pt (mw_or (mt_not (mt_val (me_callB o_isi (so_isi (itab_ok T)) (by rfl) T.z_isinstance (by decide +kernel) (ma_cons (k := .full) (me_v (i := 0) (pv 0)) (ma_cons (k := .full) (me_c (pe_bltn (v := .ty "tuple") (by rfl) T.z_tuple (by decide +kernel) rfl) (fun _ => .ty "tuple")) ma_nil))))) (mw_or1 (mt_cmp (o_ne (Lk.hu_of' hr)) so_ne (me_callB o_len so_len (by rfl) T.z_len (by decide +kernel) (ma_consR (me_root (me_v (i := 0) (pv 0))) ma_nil)) (me_root (me_v (i := 1) (pv 1))) (nomark _)))))
        (mss_one (ms_ret me_bl))
        mss_nil)
      (mss_one (ms_ret (me_callB (o_all (by rfl)) so_all (by rfl) T.z_all (by decide +kernel) (ma_consR (me_ownR (me_lc (own := [("part", 2)]) rfl scare_integers.nd (mi_tup (hl := (me_v (i := 0) (pv 0)))) (blkOk_by (own := [("part", 2)]) (N := ["value", "many", "part"]) (sc := defScope sare_integers) (by decide +kernel)) (fun _ _ _ _ _ => (mg_nm (pg_name (i := 2) scare_integers.nd rfl (.inl rfl)))) (fun _ _ _ _ _ => mts_nil) (fun _ _ _ _ _ => (me_callX (ks := [.full]) (F := fn_is_integer) (m := .full) G_is_integer takes0 (hr.mono (by decide)) (by rfl) T.m_is_integer T.F_is_integer.kp T.b_is_integer (ma_cons (k := .full) (me_v (i := 2) (pv 2)) ma_nil))))) ma_nil)))))
def fn_is_cell : FnD := runF [false, false, false] false 5
  (sSeq (sIf (eNot (eCall fn_are_integers [.full, .full] (aCons (eV 0) (aCons (eC (.int 2)) aNil))))
  (sRet (eC (.bl false)))
  sNext)
  (sSeq (sAsg (.tp [(.nm 3), (.nm 4)]) (eV 0))
  (sRet (eAnd (eChain leD ltD (eC (.int 0)) (eV 3) (e2 shlD (eC (.int 1)) (eV 1))) (eChain leD ltD (eC (.int 0)) (eV 4) (e2 shlD (eC (.int 1)) (eV 2)))))))
theorem ok_is_cell {Z : Ads} (T : Top K mg Z) : FnOk P w K mg base (L2.CX P w) 3 Z.f_is_cell Z.d_is_cell ["value", "x_bits", "y_bits"] (spM (ga K Z) [false, false, false] .full fn_is_cell) := by
  have G_are_integers : FnOk P w K mg base (L2.CX P w) 2 Z.f_are_integers Z.d_are_integers ["value", "many"] (spM (ga K Z) [false, false] .full fn_are_integers) := (ok_are_integers T).mono (by decide)
  refine T.F_is_cell.okX scis_cell (fun vs H Q E h => h.len) (fun cdv A outer s H vs Q E hr h => ?_)
  refine ⟨_, ?_, fn_body (cs := []) (c' := []) h rfl rfl (by decide) (fun z => by cases z)⟩
  exact (mss_cons (c1 := []) (ms_if (cs' := []) (mt_not (mt_val (me_callX (ks := [.full, .full]) (F := fn_are_integers) (m := .full) G_are_integers (takes_of rfl rfl rfl rfl) (hr.mono (by decide)) (by rfl) T.m_are_integers T.F_are_integers.kp T.b_are_integers (ma_cons (k := .full) (me_v (i := 0) (pv 0)) (ma_cons (k := .full) me_int ma_nil)))))
        (mss_one (ms_ret me_bl))
        mss_nil)
      (mss_cons (c1 := []) (ms_asg (me_v (i := 0) (pv 0)) (mg_tp (by rfl) (by rfl) (mgs_cons (mg_nm (pg_name (i := 3) scis_cell.nd rfl (.inl rfl))) (mgs_cons (mg_nm (pg_name (i := 4) scis_cell.nd rfl (.inl rfl))) mgs_nil)) rfl))
      (mss_one (ms_ret (me_and (me_chain op_le op_lt so_le so_lt me_int (me_v (i := 3) (pv 3)) (me_op op_shlW so_shl me_int (me_root (me_v (i := 1) (pv 1))))) (me_one (me_chain op_le op_lt so_le so_lt me_int (me_v (i := 4) (pv 4)) (me_op op_shlW so_shl me_int (me_root (me_v (i := 2) (pv 2)))))))))))
def fn_check_cell : FnD := runF [false, false, false] true 3
  (sIf (eNot (eCall fn_is_cell [.full, .full, .full] (aCons (eV 0) (aCons (eV 1) (aCons (eV 2) aNil)))))
  (sRaise "InvalidCell")
  sNext)
theorem ok_check_cell {Z : Ads} (T : Top K mg Z) : FnOk P w K mg base (L2.CX P w) 4 Z.f_check_cell Z.d_check_cell ["cell", "x_bits", "y_bits"] (spM (ga K Z) [false, false, false] .full fn_check_cell) := by
  have G_is_cell : FnOk P w K mg base (L2.CX P w) 3 Z.f_is_cell Z.d_is_cell ["value", "x_bits", "y_bits"] (spM (ga K Z) [false, false, false] .full fn_is_cell) := (ok_is_cell T).mono (by decide)
  refine T.F_check_cell.okX sccheck_cell (fun vs H Q E h => h.len) (fun cdv A outer s H vs Q E hr h => ?_)
  refine ⟨_, ?_, fn_body (cs := []) (c' := []) h rfl rfl (by decide) (fun _ => ⟨by rfl, by decide⟩)⟩
  exact mss_end (c1 := _) (mss_one (ms_if (cs' := []) (mt_not (mt_val (me_callX (ks := [.full, .full, .full]) (F := fn_is_cell) (m := .full) G_is_cell (takes_of rfl rfl rfl rfl) (hr.mono (by decide)) (by rfl) T.m_is_cell T.F_is_cell.kp T.b_is_cell (ma_cons (k := .full) (me_v (i := 0) (pv 0)) (ma_cons (k := .full) (me_v (i := 1) (pv 1)) (ma_cons (k := .full) (me_v (i := 2) (pv 2)) ma_nil))))))
        (mss_one (ms_raise ca_InvalidCell rfl (takes_of rfl rfl rfl rfl) (pmk_own PySem.F.excBase_ValueError T.x_InvalidCell T.m_InvalidCell T.k_InvalidCell (raises_own T.rb_InvalidCell T.rt_InvalidCell) (by rfl))))
        mss_nil))
def fn_count_ahead : FnD := runF [false, false, false, false] false 10
  (sSeq (sExpr (eCall fn_check_bits [.full, .full] (aCons (eV 0) (aCons (eV 1) aNil))))
  (sSeq (sExpr (eCall fn_check_cell [.full, .full, .full] (aCons (eV 2) (aCons (eV 0) (aCons (eV 1) aNil)))))
  (sSeq (sExpr (eCall fn_check_cell [.full, .full, .full] (aCons (eV 3) (aCons (eV 0) (aCons (eV 1) aNil)))))
  (sSeq (sAsg (.tp [(.nm 4), (.nm 5)]) (eV 2))
  (sSeq (sAsg (.tp [(.nm 6), (.nm 7)]) (eV 3))
  (sSeq (sIf (eAnd (e2 geD (eV 4) (eV 6)) (e2 geD (eV 5) (eV 7)))
  (sRet (eC (.int 0)))
  sNext)
  (sSeq (sSet 8 (eB b_comb (aCons (e2 addD (eV 0) (eV 1)) (aCons (eV 0) aNil))))
  (sSeq (sIf (eAnd (e2 leD (eV 4) (eV 6)) (e2 leD (eV 5) (eV 7)))
  (sRet (eV 8))
  sNext)
  (sSeq (sSet 9 (eCall fn_count_x_ahead [.full, .full, .full, .full] (aCons (eV 0) (aCons (eV 1) (aCons (e2 subD (eV 0) (e1 bitsD (e2 xorD (eV 4) (eV 6)))) (aCons (e2 subD (eV 1) (e1 bitsD (e2 xorD (eV 5) (eV 7)))) aNil))))))
  (sRet (eIf (e2 ltD (eV 4) (eV 6)) (eV 9) (e2 subD (eV 8) (eV 9)))))))))))))
theorem ok_count_ahead {Z : Ads} (T : Top K mg Z) : FnOk P w K mg base (L2.CX P w) 5 Z.f_count_ahead Z.d_count_ahead ["x_bits", "y_bits", "cell", "other"] (spM (ga K Z) [false, false, false, false] .full fn_count_ahead) := by
  have G_count_x_ahead : FnOk P w K mg base (L2.CX P w) 4 Z.f_count_x_ahead Z.d_count_x_ahead ["x_bits", "y_bits", "x_place", "y_place"] (spM (ga K Z) [false, false, false, false] .full fn_count_x_ahead) := (ok_count_x_ahead T).mono (by decide)
  have G_check_bits : FnOk P w K mg base (L2.CX P w) 4 Z.f_check_bits Z.d_check_bits ["x_bits", "y_bits"] (spM (ga K Z) [false, false] .full fn_check_bits) := (ok_check_bits T).mono (by decide)
  have G_check_cell : FnOk P w K mg base (L2.CX P w) 4 Z.f_check_cell Z.d_check_cell ["cell", "x_bits", "y_bits"] (spM (ga K Z) [false, false, false] .full fn_check_cell) := (ok_check_cell T).mono (by decide)
  refine T.F_count_ahead.okX sccount_ahead (fun vs H Q E h => h.len) (fun cdv A outer s H vs Q E hr h => ?_)
  refine ⟨_, ?_, fn_body (cs := []) (c' := []) h rfl rfl (by decide) (fun z => by cases z)⟩
  exact (mss_cons (c1 := []) (ms_expr (me_callX (ks := [.full, .full]) (F := fn_check_bits) (m := .full) G_check_bits (takes_of rfl rfl rfl rfl) (hr.mono (by decide)) (by rfl) T.m_check_bits T.F_check_bits.kp T.b_check_bits (ma_cons (k := .full) (me_v (i := 0) (pv 0)) (ma_cons (k := .full) (me_v (i := 1) (pv 1)) ma_nil))))
      (mss_cons (c1 := []) (ms_expr (me_callX (ks := [.full, .full, .full]) (F := fn_check_cell) (m := .full) G_check_cell (takes_of rfl rfl rfl rfl) (hr.mono (by decide)) (by rfl) T.m_check_cell T.F_check_cell.kp T.b_check_cell (ma_cons (k := .full) (me_v (i := 2) (pv 2)) (ma_cons (k := .full) (me_v (i := 0) (pv 0)) (ma_cons (k := .full) (me_v (i := 1) (pv 1)) ma_nil)))))
      (mss_cons (c1 := []) (ms_expr (me_callX (ks := [.full, .full, .full]) (F := fn_check_cell) (m := .full) G_check_cell (takes_of rfl rfl rfl rfl) (hr.mono (by decide)) (by rfl) T.m_check_cell T.F_check_cell.kp T.b_check_cell (ma_cons (k := .full) (me_v (i := 3) (pv 3)) (ma_cons (k := .full) (me_v (i := 0) (pv 0)) (ma_cons (k := .full) (me_v (i := 1) (pv 1)) ma_nil)))))
      (mss_cons (c1 := []) (ms_asg (me_v (i := 2) (pv 2)) (mg_tp (by rfl) (by rfl) (mgs_cons (mg_nm (pg_name (i := 4) sccount_ahead.nd rfl (.inl rfl))) (mgs_cons (mg_nm (pg_name (i := 5) sccount_ahead.nd rfl (.inl rfl))) mgs_nil)) rfl))
      (mss_cons (c1 := []) (ms_asg (me_v (i := 3) (pv 3)) (mg_tp (by rfl) (by rfl) (mgs_cons (mg_nm (pg_name (i := 6) sccount_ahead.nd rfl (.inl rfl))) (mgs_cons (mg_nm (pg_name (i := 7) sccount_ahead.nd rfl (.inl rfl))) mgs_nil)) rfl))
      (mss_cons (c1 := []) (ms_if (cs' := []) (PW.pt (mw_and (mt_cmp op_ge so_ge (me_v (i := 4) (pv 4)) (me_root (me_v (i := 6) (pv 6))) (nomark _)) (mw_and1 (mt_cmp op_ge so_ge (me_v (i := 5) (pv 5)) (me_root (me_v (i := 7) (pv 7))) (nomark _)))))
        (mss_one (ms_ret me_int))
        mss_nil)
      (mss_cons (c1 := []) (ms_set (i := 8) sccount_ahead.nd rfl (.inl rfl) (me_callF o_comb so_comb (by rfl) T.m_comb (ma_cons (k := .full) (me_op o_add so_add (me_v (i := 0) (pv 0)) (me_root (me_v (i := 1) (pv 1)))) (ma_cons (k := .full) (me_v (i := 0) (pv 0)) ma_nil))))
      (mss_cons (c1 := []) (ms_if (cs' := []) (PW.pt (mw_and (mt_cmp op_le so_le (me_v (i := 4) (pv 4)) (me_root (me_v (i := 6) (pv 6))) (nomark _)) (mw_and1 (mt_cmp op_le so_le (me_v (i := 5) (pv 5)) (me_root (me_v (i := 7) (pv 7))) (nomark _)))))
        (mss_one (ms_ret (me_v (i := 8) (pv 8))))
        mss_nil)
      (mss_cons (c1 := []) (ms_set (i := 9) sccount_ahead.nd rfl (.inl rfl) (me_callX (ks := [.full, .full, .full, .full]) (F := fn_count_x_ahead) (m := .full) G_count_x_ahead (takes_of rfl rfl rfl rfl) (hr.mono (by decide)) (by rfl) T.m_count_x_ahead T.F_count_x_ahead.kp T.b_count_x_ahead (ma_cons (k := .full) (me_v (i := 0) (pv 0)) (ma_cons (k := .full) (me_v (i := 1) (pv 1)) (ma_cons (k := .full) (me_op op_sub so_sub (me_v (i := 0) (pv 0)) (me_root (me_bits (me_root (me_op op_xor so_xor (me_v (i := 4) (pv 4)) (me_root (me_v (i := 6) (pv 6)))))))) (ma_cons (k := .full) (me_op op_sub so_sub (me_v (i := 1) (pv 1)) (me_root (me_bits (me_root (me_op op_xor so_xor (me_v (i := 5) (pv 5)) (me_root (me_v (i := 7) (pv 7)))))))) ma_nil))))))
      (mss_one (ms_ret (me_if (mt_cmp op_lt so_lt (me_v (i := 4) (pv 4)) (me_root (me_v (i := 6) (pv 6))) (nomark _)) (me_v (i := 9) (pv 9)) (me_op op_sub so_sub (me_v (i := 8) (pv 8)) (me_root (me_v (i := 9) (pv 9))))))))))))))))
def fn_law_right : FnD := runF [false, false, false, false] false 6
  (sSeq (sSet 4 (eC (.int 0)))
  (sSeq (sFor (.nm 5) (iL (eCall fn_law_words [.full, .full] (aCons (eV 0) (aCons (eV 1) aNil))))
  (sSet 4 (e2 addD (eV 4) (eB b_int (aCons (e2 ltD (eCall fn_law_key [.full, .full, .full] (aCons (eV 5) (aCons (e2 ixD (eV 2) (eC (.int 0))) (aCons (e2 ixD (eV 2) (eC (.int 1))) aNil)))) (eCall fn_law_key [.full, .full, .full] (aCons (eV 5) (aCons (e2 ixD (eV 3) (eC (.int 0))) (aCons (e2 ixD (eV 3) (eC (.int 1))) aNil))))) aNil)))))
  (sRet (e2 eqD (eB b_repr (aCons (eCall fn_count_ahead [.full, .full, .full, .full] (aCons (eV 0) (aCons (eV 1) (aCons (eV 2) (aCons (eV 3) aNil))))) aNil)) (eB b_repr (aCons (eV 4) aNil))))))
theorem ok_law_right {Z : Ads} (T : Top K mg Z) : Lk.FnG P w K mg base 6 Z.f_law_right Z.d_law_right ["x_bits", "y_bits", "cell", "other"] (spM0 (ga K Z) [false, false, false, false] .full fn_law_right) := by
  have G_law_key : Lk.FnG P w K mg base 5 Z.f_law_key Z.d_law_key ["word", "x", "y"] (spM0 (ga K Z) [false, false, false] .full fn_law_key) := (ok_law_key T).mono (by decide)
  have G_law_words : Lk.FnG P w K mg base 5 Z.f_law_words Z.d_law_words ["x_bits", "y_bits"] (spM0 (ga K Z) [false, false] .full fn_law_words) := (ok_law_words T).mono (by decide)
  have G_count_ahead : FnOk P w K mg base (L2.CX P w) 5 Z.f_count_ahead Z.d_count_ahead ["x_bits", "y_bits", "cell", "other"] (spM (ga K Z) [false, false, false, false] .full fn_count_ahead) := (ok_count_ahead T).mono (by decide)
  refine Lk.okG T.F_law_right sclaw_right (fun vs H Q E h => spM.len h) (fun cdv A outer s H vs Q E hgd hr h => ?_)
  refine ⟨_, ?_, fn_body0 (cs := []) (c' := []) h rfl rfl (by decide) (fun z => by cases z)⟩
  exact (mss_cons (c1 := []) (ms_set (i := 4) sclaw_right.nd rfl (.inl rfl) me_int)
      (mss_cons (c1 := []) (ms_for PassesOwn.never rfl (mi_list (b := false) (hl := (me_callG (ks := [.full, .full]) (F := fn_law_words) (m := .full) G_law_words hgd (hr.mono (by decide)) (by rfl) T.m_law_words T.F_law_words.kp T.b_law_words (ma_cons (k := .full) (me_v (i := 0) (pv 0)) (ma_cons (k := .full) (me_v (i := 1) (pv 1)) ma_nil))))) (mg_nm (pg_name (i := 5) sclaw_right.nd rfl (.inl rfl)))
        (mss_one (ms_set (i := 4) sclaw_right.nd rfl (.inl rfl) (me_op o_add so_add (me_v (i := 4) (pv 4)) (me_root (me_callTy call_int1 so_int1 (by rfl) T.z_int (by decide +kernel) (ma_consR (me_root (me_cmp op_lt so_lt (me_callG (ks := [.full, .full, .full]) (F := fn_law_key) (m := .full) G_law_key hgd (hr.mono (by decide)) (by rfl) T.m_law_key T.F_law_key.kp T.b_law_key (ma_cons (k := .full) (me_v (i := 5) (pv 5)) (ma_cons (k := .full) (me_ix o_ix so_ix (me_v (i := 2) (pv 2)) (me_root me_int) (fun _ _ => rfl)) (ma_cons (k := .full) (me_ix o_ix so_ix (me_v (i := 2) (pv 2)) (me_root me_int) (fun _ _ => rfl)) ma_nil)))) (me_root (me_callG (ks := [.full, .full, .full]) (F := fn_law_key) (m := .full) G_law_key hgd (hr.mono (by decide)) (by rfl) T.m_law_key T.F_law_key.kp T.b_law_key (ma_cons (k := .full) (me_v (i := 5) (pv 5)) (ma_cons (k := .full) (me_ix o_ix so_ix (me_v (i := 3) (pv 3)) (me_root me_int) (fun _ _ => rfl)) (ma_cons (k := .full) (me_ix o_ix so_ix (me_v (i := 3) (pv 3)) (me_root me_int) (fun _ _ => rfl)) ma_nil))))) (nomark _))) ma_nil)))))))
      (mss_one (ms_ret (me_cmp (o_eq (Lk.hu_of' hr)) so_eq (me_callB (o_repr hgd (Lk.hu_of' hr)) so_repr (by rfl) T.z_repr (by decide +kernel) (ma_consR (me_root (me_callX (ks := [.full, .full, .full, .full]) (F := fn_count_ahead) (m := .full) G_count_ahead takes0 (hr.mono (by decide)) (by rfl) T.m_count_ahead T.F_count_ahead.kp T.b_count_ahead (ma_cons (k := .full) (me_v (i := 0) (pv 0)) (ma_cons (k := .full) (me_v (i := 1) (pv 1)) (ma_cons (k := .full) (me_v (i := 2) (pv 2)) (ma_cons (k := .full) (me_v (i := 3) (pv 3)) ma_nil)))))) ma_nil)) (me_root (me_callB (o_repr hgd (Lk.hu_of' hr)) so_repr (by rfl) T.z_repr (by decide +kernel) (ma_consR (me_root (me_v (i := 4) (pv 4))) ma_nil))) (nomark _))))))
def fn_law_some_cell : FnD := runF [true, false, false] false 3
  (sRet (eTup (aCons (eCall fn_law_pick [.cel 0, .full] (aCons (eCel 0) (aCons (e2 shlD (eC (.int 1)) (eV 1)) aNil))) (aCons (eCall fn_law_pick [.cel 0, .full] (aCons (eCel 0) (aCons (e2 shlD (eC (.int 1)) (eV 2)) aNil))) aNil))))
theorem ok_law_some_cell {Z : Ads} (T : Top K mg Z) : Lk.FnG P w K mg base 2 Z.f_law_some_cell Z.d_law_some_cell ["bag", "x_bits", "y_bits"] (spM0 (ga K Z) [true, false, false] .full fn_law_some_cell) := by
  have G_law_pick : Lk.FnG P w K mg base 1 Z.f_law_pick Z.d_law_pick ["bag", "many"] (spM0 (ga K Z) [true, false] .full fn_law_pick) := (ok_law_pick T).mono (by decide)
  refine Lk.okG T.F_law_some_cell sclaw_some_cell (fun vs H Q E h => spM.len h) (fun cdv A outer s H vs Q E hgd hr h => ?_)
  refine ⟨_, ?_, fn_body0 (cs := [0]) (c' := [0]) h rfl rfl (by decide) (fun z => by cases z)⟩
  exact (mss_one (ms_ret (me_tup (ks := [.full, .full]) (ma_cons (k := .full) (me_callG (ks := [.cel 0, .full]) (F := fn_law_pick) (m := .full) G_law_pick hgd (hr.mono (by decide)) (by rfl) T.m_law_pick T.F_law_pick.kp T.b_law_pick (ma_cel (i := 0) (pv 0) (ma_cons (k := .full) (me_op op_shlW so_shl me_int (me_root (me_v (i := 1) (pv 1)))) ma_nil))) (ma_cons (k := .full) (me_callG (ks := [.cel 0, .full]) (F := fn_law_pick) (m := .full) G_law_pick hgd (hr.mono (by decide)) (by rfl) T.m_law_pick T.F_law_pick.kp T.b_law_pick (ma_cel (i := 0) (pv 0) (ma_cons (k := .full) (me_op op_shlW so_shl me_int (me_root (me_v (i := 2) (pv 2)))) ma_nil))) ma_nil)))))
def fn_law : FnD := runF [false] false 12
  (sSeq (sFor (.tp [(.nm 1), (.nm 2)]) (iA k_enum (aCons (e2 addD (eSl slL (eV 0) eNo (eBd (eC (.int 6)))) (eLst (aCons (eC (.int 0)) aNil))) aNil))
  (sSeq (sSet 3 (eCall fn_law_bag [.full] (aCons (eV 2) aNil)))
  (sSeq (sSet 4 (e2 addD (eC (.int 3)) (eB b_int (aCons (e2 eqD (eV 1) (eC (.int 0))) aNil))))
  (sFor (.nm 5) (iA k_rng1 (aCons (eC (.int 8)) aNil))
  (sSeq (sPar [6, 7] (aCons (eCall fn_law_pick [.cel 3, .full] (aCons (eCel 3) (aCons (e2 addD (eV 4) (eC (.int 1))) aNil))) (aCons (e2 addD (eC (.int 1)) (eCall fn_law_pick [.cel 3, .full] (aCons (eCel 3) (aCons (eV 4) aNil)))) aNil)))
  (sSeq (sPar [8, 9] (aCons (eCall fn_law_some_cell [.cel 3, .full, .full] (aCons (eCel 3) (aCons (eV 6) (aCons (eV 7) aNil)))) (aCons (eCall fn_law_some_cell [.cel 3, .full, .full] (aCons (eCel 3) (aCons (eV 6) (aCons (eV 7) aNil)))) aNil)))
  (sSeq (sIf (eOr (eNot (eCall fn_law_right [.full, .full, .full, .full] (aCons (eV 6) (aCons (eV 7) (aCons (eV 8) (aCons (eV 9) aNil)))))) (eNot (eCall fn_law_right [.full, .full, .full, .full] (aCons (eV 6) (aCons (eV 7) (aCons (eV 8) (aCons (eV 8) aNil)))))))
  (sRet (eC (.bl false)))
  sNext)
  (sIf (eNot (eCall fn_law_right [.full, .full, .full, .full] (aCons (eV 7) (aCons (eV 6) (aCons (eRevT (eV 8)) (aCons (eRevT (eV 9)) aNil))))))
  (sRet (eC (.bl false)))
  sNext))))))))
  (sSeq (sSet 10 (eComp [11] (.nm 11) none (eCall fn_count_ahead [.full, .full, .full, .full] (aCons (eC (.int 2)) (aCons (eC (.int 2)) (aCons (eTup (aCons (eC (.int 1)) (aCons (eC (.int 0)) aNil))) (aCons (eV 11) aNil))))) (iT (eTup (aCons (eTup (aCons (eC (.int 0)) (aCons (eC (.int 1)) aNil))) (aCons (eTup (aCons (eC (.int 0)) (aCons (eC (.int 2)) aNil))) (aCons (eTup (aCons (eC (.int 3)) (aCons (eC (.int 0)) aNil))) aNil)))))))
  (sRet (e2 eqD (eV 10) (eLst (aCons (eC (.int 3)) (aCons (eC (.int 5)) (aCons (eC (.int 6)) aNil))))))))
theorem ok_law {Z : Ads} (T : Top K mg Z) : Lk.FnG P w K mg base 7 Z.f_law Z.d_law ["script"] (spM0 (ga K Z) [false] .full fn_law) := by
  have G_law_bag : Lk.FnG P w K mg base 6 Z.f_law_bag Z.d_law_bag ["cell"] (spM0 (ga K Z) [false] .own fn_law_bag) := (ok_law_bag T).mono (by decide)
  have G_law_pick : Lk.FnG P w K mg base 6 Z.f_law_pick Z.d_law_pick ["bag", "many"] (spM0 (ga K Z) [true, false] .full fn_law_pick) := (ok_law_pick T).mono (by decide)
  have G_law_right : Lk.FnG P w K mg base 6 Z.f_law_right Z.d_law_right ["x_bits", "y_bits", "cell", "other"] (spM0 (ga K Z) [false, false, false, false] .full fn_law_right) := (ok_law_right T).mono (by decide)
  have G_law_some_cell : Lk.FnG P w K mg base 6 Z.f_law_some_cell Z.d_law_some_cell ["bag", "x_bits", "y_bits"] (spM0 (ga K Z) [true, false, false] .full fn_law_some_cell) := (ok_law_some_cell T).mono (by decide)
  have G_count_ahead : FnOk P w K mg base (L2.CX P w) 6 Z.f_count_ahead Z.d_count_ahead ["x_bits", "y_bits", "cell", "other"] (spM (ga K Z) [false, false, false, false] .full fn_count_ahead) := (ok_count_ahead T).mono (by decide)
  refine Lk.okG T.F_law sclaw (fun vs H Q E h => spM.len h) (fun cdv A outer s H vs Q E hgd hr h => ?_)
  refine ⟨_, ?_, fn_body0 (cs := []) (c' := []) h rfl rfl (by decide) (fun z => by cases z)⟩
  exact (mss_cons (c1 := []) (ms_for PassesOwn.never rfl (mi_enum (by rfl) T.z_enumerate (ma_cons (k := .full) (me_op o_add so_add (me_own (me_sl o_slL so_slL (me_root (me_v (i := 0) (pv 0))) mo_none (mo_some me_int))) (me_ownR (me_lst (ks := [.full]) (ma_cons (k := .full) me_int ma_nil)))) ma_nil)) (mg_tp (by rfl) (by rfl) (mgs_cons (mg_nm (pg_name (i := 1) sclaw.nd rfl (.inl rfl))) (mgs_cons (mg_nm (pg_name (i := 2) sclaw.nd rfl (.inl rfl))) mgs_nil)) rfl)
        (mss_end (c1 := [3]) (mss_cons (c1 := [3]) (ms_own (cs' := [3]) (i := 3) sclaw.nd rfl (.inl rfl) (me_callG (ks := [.full]) (F := fn_law_bag) (m := .own) G_law_bag hgd (hr.mono (by decide)) (by rfl) T.m_law_bag T.F_law_bag.kp T.b_law_bag (ma_cons (k := .full) (me_v (i := 2) (pv 2)) ma_nil)))
      (mss_cons (c1 := [3]) (ms_set (i := 4) sclaw.nd rfl (.inl rfl) (me_op o_add so_add me_int (me_root (me_callTy call_int1 so_int1 (by rfl) T.z_int (by decide +kernel) (ma_consR (me_root (me_cmp (o_eq (Lk.hu_of' hr)) so_eq (me_v (i := 1) (pv 1)) (me_root me_int) (nomark _))) ma_nil)))))
      (mss_one (ms_for PassesOwn.never rfl (mi_rng1 (by rfl) T.z_range (ma_cons (k := .full) me_int ma_nil)) (mg_nm (pg_name (i := 5) sclaw.nd rfl (.inl rfl)))
        (mss_cons (c1 := [3]) (ms_par2 (i := 6) (j := 7) (cs' := [3]) (ks := [.full, .full]) (fun _ h => ps_par (i := 6) (j := 7) (by rfl) sclaw.nd rfl rfl (by decide) rfl rfl h (by rfl)) (ma_cons (k := .full) (me_callG (ks := [.cel 3, .full]) (F := fn_law_pick) (m := .full) G_law_pick hgd (hr.mono (by decide)) (by rfl) T.m_law_pick T.F_law_pick.kp T.b_law_pick (ma_cel (i := 3) (pv 3) (ma_cons (k := .full) (me_op o_add so_add (me_v (i := 4) (pv 4)) (me_root me_int)) ma_nil))) (ma_cons (k := .full) (me_op o_add so_add me_int (me_root (me_callG (ks := [.cel 3, .full]) (F := fn_law_pick) (m := .full) G_law_pick hgd (hr.mono (by decide)) (by rfl) T.m_law_pick T.F_law_pick.kp T.b_law_pick (ma_cel (i := 3) (pv 3) (ma_cons (k := .full) (me_v (i := 4) (pv 4)) ma_nil))))) ma_nil)))
      (mss_cons (c1 := [3]) (ms_par2 (i := 8) (j := 9) (cs' := [3]) (ks := [.full, .full]) (fun _ h => ps_par (i := 8) (j := 9) (by rfl) sclaw.nd rfl rfl (by decide) rfl rfl h (by rfl)) (ma_cons (k := .full) (me_callG (ks := [.cel 3, .full, .full]) (F := fn_law_some_cell) (m := .full) G_law_some_cell hgd (hr.mono (by decide)) (by rfl) T.m_law_some_cell T.F_law_some_cell.kp T.b_law_some_cell (ma_cel (i := 3) (pv 3) (ma_cons (k := .full) (me_v (i := 6) (pv 6)) (ma_cons (k := .full) (me_v (i := 7) (pv 7)) ma_nil)))) (ma_cons (k := .full) (me_callG (ks := [.cel 3, .full, .full]) (F := fn_law_some_cell) (m := .full) G_law_some_cell hgd (hr.mono (by decide)) (by rfl) T.m_law_some_cell T.F_law_some_cell.kp T.b_law_some_cell (ma_cel (i := 3) (pv 3) (ma_cons (k := .full) (me_v (i := 6) (pv 6)) (ma_cons (k := .full) (me_v (i := 7) (pv 7)) ma_nil)))) ma_nil)))
      (mss_cons (c1 := [3]) (ms_if (cs' := [3]) (PW.pt (mw_or (mt_not (mt_val (me_callG (ks := [.full, .full, .full, .full]) (F := fn_law_right) (m := .full) G_law_right hgd (hr.mono (by decide)) (by rfl) T.m_law_right T.F_law_right.kp T.b_law_right (ma_cons (k := .full) (me_v (i := 6) (pv 6)) (ma_cons (k := .full) (me_v (i := 7) (pv 7)) (ma_cons (k := .full) (me_v (i := 8) (pv 8)) (ma_cons (k := .full) (me_v (i := 9) (pv 9)) ma_nil))))))) (mw_or1 (mt_not (mt_val (me_callG (ks := [.full, .full, .full, .full]) (F := fn_law_right) (m := .full) G_law_right hgd (hr.mono (by decide)) (by rfl) T.m_law_right T.F_law_right.kp T.b_law_right (ma_cons (k := .full) (me_v (i := 6) (pv 6)) (ma_cons (k := .full) (me_v (i := 7) (pv 7)) (ma_cons (k := .full) (me_v (i := 8) (pv 8)) (ma_cons (k := .full) (me_v (i := 8) (pv 8)) ma_nil))))))))))
        (mss_one (ms_ret me_bl))
        mss_nil)
      (mss_one (ms_if (cs' := [3]) (mt_not (mt_val (me_callG (ks := [.full, .full, .full, .full]) (F := fn_law_right) (m := .full) G_law_right hgd (hr.mono (by decide)) (by rfl) T.m_law_right T.F_law_right.kp T.b_law_right (ma_cons (k := .full) (me_v (i := 7) (pv 7)) (ma_cons (k := .full) (me_v (i := 6) (pv 6)) (ma_cons (k := .full) (me_revT (me_root (me_v (i := 8) (pv 8)))) (ma_cons (k := .full) (me_revT (me_root (me_v (i := 9) (pv 9)))) ma_nil)))))))
        (mss_one (ms_ret me_bl))
        mss_nil)))))))))))
      (mss_cons (c1 := []) (ms_lcSet (own := [("other", 11)]) (i := 10) rfl sclaw.nd rfl rfl (sw_true rfl rfl rfl (by decide +kernel)) (mi_tup (hl := (me_tup (ks := [.full, .full, .full]) (ma_cons (k := .full) (me_tup (ks := [.full, .full]) (ma_cons (k := .full) me_int (ma_cons (k := .full) me_int ma_nil))) (ma_cons (k := .full) (me_tup (ks := [.full, .full]) (ma_cons (k := .full) me_int (ma_cons (k := .full) me_int ma_nil))) (ma_cons (k := .full) (me_tup (ks := [.full, .full]) (ma_cons (k := .full) me_int (ma_cons (k := .full) me_int ma_nil))) ma_nil)))))) (blkOk_by (own := [("other", 11)]) (N := ["script", "k", "cell", "bag", "most", "turn", "x_bits", "y_bits", "one", "two", "told", "other"]) (sc := defScope slaw) (by decide +kernel)) (fun _ _ _ _ _ => (mg_nm (pg_name (i := 11) sclaw.nd rfl (.inl rfl)))) (fun _ _ _ _ _ => mts_nil) (fun _ _ _ _ _ => (me_callX (ks := [.full, .full, .full, .full]) (F := fn_count_ahead) (m := .full) G_count_ahead takes0 (hr.mono (by decide)) (by rfl) T.m_count_ahead T.F_count_ahead.kp T.b_count_ahead (ma_cons (k := .full) me_int (ma_cons (k := .full) me_int (ma_cons (k := .full) (me_tup (ks := [.full, .full]) (ma_cons (k := .full) me_int (ma_cons (k := .full) me_int ma_nil))) (ma_cons (k := .full) (me_v (i := 11) (pv 11)) ma_nil)))))))
      (mss_one (ms_ret (me_cmp (o_eq (Lk.hu_of' hr)) so_eq (me_v (i := 10) (pv 10)) (me_ownR (me_lst (ks := [.full, .full, .full]) (ma_cons (k := .full) me_int (ma_cons (k := .full) me_int (ma_cons (k := .full) me_int ma_nil))))) (nomark _))))))
end
noncomputable section
open Lk
set_option linter.unusedSimpArgs false
set_option linter.unusedVariables false
set_option maxRecDepth 20000
set_option maxHeartbeats 4000000
section
theorem lgI {z : Int} (h : -1606938044258990275541962092341162602522202993782792835301376 ≤ z ∧ z ≤ 1606938044258990275541962092341162602522202993782792835301376) : z.natAbs.log2 < 201 := PySem.Flt.log2_lt_of (by decide) (by
  have e : (2 : Nat) ^ 201 = 3213876088517980551083924184682325205044405987565585670602752 := by decide +kernel
  rw [e]
  omega)
theorem p2_100 {n : Nat} (h : n ≤ 100) : 2 ^ n ≤ 1267650600228229401496703205376 := by
  have e : (2 : Nat) ^ 100 = 1267650600228229401496703205376 := by decide +kernel
  rw [← e]
  exact Nat.pow_le_pow_right (by decide) h
theorem mulR {a b : Int} (h : -18446744073709551616 < b ∧ b < 18446744073709551616 := by decide) : mulC a b := .inr (.inl h)
theorem mulL {a b : Int} (h : -18446744073709551616 < a ∧ a < 18446744073709551616) : mulC a b := .inl h
theorem pick_ok {a c k m : Int} (ha : 0 ≤ a) (h1 : 1 ≤ m) (h2 : m ≤ 1606938044258990275541962092341162602522202993782792835301376) :
    OkF (fn_law_pick [.lst [.int a, .int c, .int k], .int m]) (fun d ds => d = .int (pickV a c k m.toNat) ∧ ds = [.lst [.int (a / m), .int c, .int (k + 1)], .int m]) fun _ _ => False := by
  obtain ⟨m, rfl⟩ := Int.eq_ofNat_of_zero_le (show 0 ≤ m by omega)
  rw [Int.toNat_natCast]
  have e3 : ((m : Int)).natAbs.log2 < 201 := lgI ⟨by omega, by omega⟩
  unfold fn_law_pick
  simp (dsimp := false) only [↓okE_ok, ↓okE_ex, ↓okA_ok, ↓okA_ex, ↓okS_some, okD_some, okN_some, okL_some, okG_some, ↓okE_bind, ↓okE_aBind, ↓okS_bind, ↓okS_aBind, ↓okE_lift, ↓okE_V, ↓okE_C, ↓okE_1, ↓okE_2, ↓okA_nil, ↓okA_cons, ↓okE_B, ↓okE_Tup, ↓okE_Lst, tE2_bl, ↓okE_If, ↓okE_And, ↓okE_Or, nE_bl, ↓okE_Not, okB_some, ↓okE_Tru, cE_bl, ↓okE_Chain, ↓okE_Chain3, ↓okE_callR, ↓okE_Call, okI_ins, ↓okE_Prop, ↓okE_Meth, ↓okE_Make, okFs_ins, ↓okE_Fld, okT_str, ↓okE_Txt, ↓okE_Cel, okRS_str, ↓okE_RevS, ↓okE_RevL, ↓okE_RevT, tupRev_tup, rev_two, bitsD_int, b_gcd_int, b_comb_ok, b_tuple_tup, b_tuple_lst, b_str_str, b_str_int, addD_lst, addD_tup, catD_lst, repD_lst, mulD_lst, k_zip_lst, k_rev_lst, b_list_lst, b_list_tup, okSl_nn, okSl_in, okSl_ni, okSl_ii, ↓okE_Sl, ↓okE_No, okBd_int, ↓okE_Bd, ↓okE_iL, ↓okE_iT, ↓okE_iS, ↓okE_iA, okC_lst, ↓okE_Comp, okMu_some, ↓okE_Mut, ↓seqK_nx, ↓seqK_rt, ↓seqK_ex, ↓seqK_bk, ↓seqK_ct, ↓okS_Seq, ↓okS_Next, ↓okS_Dead, ↓okS_Brk, ↓okS_Ct, ↓okS_RetN, ↓okS_Raise, ↓okS_Ret, ↓okS_Expr, ↓okS_Set, ↓okS_Par, ↓okS_Aug, ↓okS_Asg, ↓okS_If, okX_some, okZ_int, ↓okS_Sub, okFp_ins, ↓okS_Fld, ↓retK_nx, ↓retK_rt, ↓retK_ex, ↓okF_run, okF_val, okF_exc, ↓lpK_nx, ↓lpK_ct, ↓lpK_bk, ↓lpK_rt, ↓lpK_ex, ↓okS_For, List.getElem?_cons_zero, List.getElem?_cons_succ, List.set_cons_zero, List.set_cons_succ, List.map_cons, List.map_nil, List.length_cons, List.length_nil, List.replicate_succ, List.replicate_zero, List.cons_append, List.nil_append, Option.join_some, Option.getD_some, Option.bind_some, Option.map_some, stD_cons, stD_nil, tgtD_nm, tgtD_tp, tgtsD_nil, tgtsD_cons, argD_full, argD_own, argD_root, argD_cel, argD_nil, putC_full, putC_own, putC_root, putC_cel, putC_nil, outs_t, outs_f, outs_nil, subD_int, addD_int, subI_int, addI_int, mulD_ok, modD_ok, divD_ok, pow1018, pow1015, powD_ok, shlD_ok, shrD_ok, addD_str, mulD_str, b_sum_2, b_len_str, b_len_lst, b_len_tup, k_enumT_str, k_enum_lst, okMu_app, okMu_ext, okL_rng1, okL_rng2, andD_int, xorD_int, negD_int, ltD_int, leD_int, gtD_int, geD_int, eqD_int, eqD_str, eqD_bl, neD_int, neD_str, neD_bl, ixL_0, ixL_1, ixL_2, ixL_3, ixT_0, ixT_1, ixT_2, ixT_3, ixN_0, ixN_1, ixN_2, ixN_3, isD_non, isntD_non, isN, b_int_int, b_int_bl, b_max2_int, b_min2_int, b_abs_int, m_count_str, listD_lst, listD_slst, tupD, strD, decide_eq_true_eq, decide_eq_false_iff_not, decide_true, decide_false, eq_self, and_true, true_and, if_true, if_false, Bool.false_eq_true, ↓reduceIte, Nat.reduceAdd, Nat.reduceSub, Nat.reduceLT, ite_true, ite_false, Bool.not_true, Bool.not_false, Int.toNat_natCast, Int.reduceLT, Int.reduceLE, Int.reduceToNat, Int.reduceMul, Int.reduceAdd, Int.reduceSub, Int.reduceEq, Nat.reduceLeDiff, Nat.reduceMul, List.lookup_cons_self]
  have hm : (0 : Int) < (m : Int) := by omega
  split
  · rename_i h
    refine ⟨hm, ⟨hm, by omega⟩, ?_⟩
    unfold pickV
    rw [if_pos h, Int.fmod_eq_emod_of_nonneg _ (by omega)]
  · rename_i h
    have a0 : a = 0 := by omega
    subst a0
    have z : (0 : Int) / (m : Int) = 0 := Int.zero_ediv _
    have fF : (c % 2147483629 * 48271 + (k + 1) * 69621 + 12345) % 2147483647 = mixF c (k + 1) := rfl
    rw [fF]
    have fS : (mixF c (k + 1) * mixF c (k + 1) + (k + 1) * 40692) % 2147483587 = mixS c (k + 1) := rfl
    rw [fS]
    have fD : (mixF c (k + 1) * 2147483587 + mixS c (k + 1)) / 32 = mixD c (k + 1) := rfl
    rw [fD]
    have b1 := mixF_b c (k + 1)
    have b2 := mixS_b c (k + 1)
    have b3 := mixD_b c (k + 1)
    have e5 : (mixD c (k + 1)).natAbs.log2 < 201 := lgI ⟨by omega, by omega⟩
    refine ⟨mulR, mulR, mulL ⟨by omega, by omega⟩, mulR, mulR, ⟨by decide, by decide +kernel⟩, ?_⟩
    rw [z]
    unfold pickV
    rw [if_neg h, Int.fmod_eq_emod_of_nonneg _ (by omega)]
    split
    · exact ⟨⟨by decide, by omega⟩, hm, rfl, rfl⟩
    · exact ⟨hm, rfl, rfl⟩
theorem pickV_b {a c k : Int} {m : Nat} (ha : 0 ≤ a) (h1 : 1 ≤ m) : 0 ≤ pickV a c k m ∧ pickV a c k m < m := by
  unfold pickV
  have hm : (0 : Int) < (m : Int) := by omega
  split
  · rw [Int.fmod_eq_emod_of_nonneg _ (by omega)]
    exact ⟨Int.emod_nonneg _ (by omega), Int.emod_lt_of_pos _ hm⟩
  · rw [Int.fmod_eq_emod_of_nonneg _ (by omega)]
    exact ⟨Int.emod_nonneg _ (by omega), Int.emod_lt_of_pos _ hm⟩
/-- a bag -/
def Bg (d : D) : Prop := ∃ a c k : Int, d = .lst [.int a, .int c, .int k] ∧ 0 ≤ a
theorem pick_bg {d : D} {m : Int} {QF XF : D → List D → Prop} (B : Bg d) (h1 : 1 ≤ m) (h2 : m ≤ 1606938044258990275541962092341162602522202993782792835301376) (q : ∀ r : Nat, (r : Int) < m → ∀ d', Bg d' → QF (.int r) [d', .int m]) : OkF (fn_law_pick [d, .int m]) QF XF := by
  obtain ⟨a, c, k, rfl, ha⟩ := B
  refine okF_ok (pick_ok ha h1 h2) XF ?_
  rintro d ds ⟨rfl, rfl⟩
  have := pickV_b (a := a) (c := c) (k := k) (m := m.toNat) ha (by omega)
  obtain ⟨r, hr⟩ := Int.eq_ofNat_of_zero_le this.1
  rw [hr]
  exact q r (by omega) _ ⟨_, _, _, rfl, Int.ediv_nonneg ha (by omega)⟩
theorem bag_ok {c : Int} {QF XF : D → List D → Prop} (q : ∀ d, Bg d → QF d [.int c]) : OkF (fn_law_bag [.int c]) QF XF := by
  unfold fn_law_bag
  simp (dsimp := false) only [↓okE_ok, ↓okE_ex, ↓okA_ok, ↓okA_ex, ↓okS_some, okD_some, okN_some, okL_some, okG_some, ↓okE_bind, ↓okE_aBind, ↓okS_bind, ↓okS_aBind, ↓okE_lift, ↓okE_V, ↓okE_C, ↓okE_1, ↓okE_2, ↓okA_nil, ↓okA_cons, ↓okE_B, ↓okE_Tup, ↓okE_Lst, tE2_bl, ↓okE_If, ↓okE_And, ↓okE_Or, nE_bl, ↓okE_Not, okB_some, ↓okE_Tru, cE_bl, ↓okE_Chain, ↓okE_Chain3, ↓okE_callR, ↓okE_Call, okI_ins, ↓okE_Prop, ↓okE_Meth, ↓okE_Make, okFs_ins, ↓okE_Fld, okT_str, ↓okE_Txt, ↓okE_Cel, okRS_str, ↓okE_RevS, ↓okE_RevL, ↓okE_RevT, tupRev_tup, rev_two, bitsD_int, b_gcd_int, b_comb_ok, b_tuple_tup, b_tuple_lst, b_str_str, b_str_int, addD_lst, addD_tup, catD_lst, repD_lst, mulD_lst, k_zip_lst, k_rev_lst, b_list_lst, b_list_tup, okSl_nn, okSl_in, okSl_ni, okSl_ii, ↓okE_Sl, ↓okE_No, okBd_int, ↓okE_Bd, ↓okE_iL, ↓okE_iT, ↓okE_iS, ↓okE_iA, okC_lst, ↓okE_Comp, okMu_some, ↓okE_Mut, ↓seqK_nx, ↓seqK_rt, ↓seqK_ex, ↓seqK_bk, ↓seqK_ct, ↓okS_Seq, ↓okS_Next, ↓okS_Dead, ↓okS_Brk, ↓okS_Ct, ↓okS_RetN, ↓okS_Raise, ↓okS_Ret, ↓okS_Expr, ↓okS_Set, ↓okS_Par, ↓okS_Aug, ↓okS_Asg, ↓okS_If, okX_some, okZ_int, ↓okS_Sub, okFp_ins, ↓okS_Fld, ↓retK_nx, ↓retK_rt, ↓retK_ex, ↓okF_run, okF_val, okF_exc, ↓lpK_nx, ↓lpK_ct, ↓lpK_bk, ↓lpK_rt, ↓lpK_ex, ↓okS_For, List.getElem?_cons_zero, List.getElem?_cons_succ, List.set_cons_zero, List.set_cons_succ, List.map_cons, List.map_nil, List.length_cons, List.length_nil, List.replicate_succ, List.replicate_zero, List.cons_append, List.nil_append, Option.join_some, Option.getD_some, Option.bind_some, Option.map_some, stD_cons, stD_nil, tgtD_nm, tgtD_tp, tgtsD_nil, tgtsD_cons, argD_full, argD_own, argD_root, argD_cel, argD_nil, putC_full, putC_own, putC_root, putC_cel, putC_nil, outs_t, outs_f, outs_nil, subD_int, addD_int, subI_int, addI_int, mulD_ok, modD_ok, divD_ok, pow1018, pow1015, powD_ok, shlD_ok, shrD_ok, addD_str, mulD_str, b_sum_2, b_len_str, b_len_lst, b_len_tup, k_enumT_str, k_enum_lst, okMu_app, okMu_ext, okL_rng1, okL_rng2, andD_int, xorD_int, negD_int, ltD_int, leD_int, gtD_int, geD_int, eqD_int, eqD_str, eqD_bl, neD_int, neD_str, neD_bl, ixL_0, ixL_1, ixL_2, ixL_3, ixT_0, ixT_1, ixT_2, ixT_3, ixN_0, ixN_1, ixN_2, ixN_3, isD_non, isntD_non, isN, b_int_int, b_int_bl, b_max2_int, b_min2_int, b_abs_int, m_count_str, listD_lst, listD_slst, tupD, strD, decide_eq_true_eq, decide_eq_false_iff_not, decide_true, decide_false, eq_self, and_true, true_and, if_true, if_false, Bool.false_eq_true, ↓reduceIte, Nat.reduceAdd, Nat.reduceSub, Nat.reduceLT, ite_true, ite_false, Bool.not_true, Bool.not_false, Int.toNat_natCast, Int.reduceLT, Int.reduceLE, Int.reduceToNat, Int.reduceMul, Int.reduceAdd, Int.reduceSub, Int.reduceEq, Nat.reduceLeDiff, Nat.reduceMul, List.lookup_cons_self]
  refine q _ ⟨_, _, _, rfl, ?_⟩
  split <;> omega
theorem shl1_ok {n : Nat} (h : n ≤ 1000) : shlD (.int 1) (.int n) = some (.int (2 ^ n : Nat)) := by
  rw [shlD_int, if_pos (show shlC 1 n from ⟨by omega, by rw [show (Int.natAbs 1).log2 = 0 by decide +kernel]; omega⟩), Int.toNat_natCast, Int.one_mul]
  simp
end
section
theorem line_ok {n : Nat} (h : n ≤ 10000) : n ≤ sizeLine := Nat.le_trans h (by decide)
end
section
theorem and_one (z : Nat) : Builtin.bitAnd (z : Int) 1 = ((z % 2 : Nat) : Int) := by
  show (match decide (0 ≤ (z : Int)), decide ((0 : Int) ≤ 1) with
    | true, true => (((z : Int).toNat &&& (1 : Int).toNat : Nat) : Int)
    | true, false => (z : Int) - (((z : Int).toNat &&& (Builtin.bitNot 1).toNat : Nat) : Int)
    | false, true => (1 : Int) - (((1 : Int).toNat &&& (Builtin.bitNot z).toNat : Nat) : Int)
    | false, false => Builtin.bitNot (((Builtin.bitNot z).toNat ||| (Builtin.bitNot 1).toNat : Nat) : Int)) = _
  rw [decide_eq_true (show (0 : Int) ≤ z by omega), decide_eq_true (show (0 : Int) ≤ 1 by decide)]
  dsimp only
  rw [Int.toNat_natCast, show (1 : Int).toNat = 1 from rfl, Nat.and_one_is_mod]
theorem shr_nat (x i : Nat) : (x : Int) / 2 ^ ((i : Int)).toNat = ((x / 2 ^ i : Nat) : Int) := by
  rw [Int.toNat_natCast, Int.natCast_ediv, Int.natCast_pow]
  rfl
theorem shrD_nat {x i : Nat} {P : D → Prop} : OkD (shrD (.int x) (.int i)) P = P (.int (x / 2 ^ i : Nat)) := by
  rw [shrD_ok, shr_nat]
  exact propext ⟨fun h => h.2, fun h => ⟨by omega, h⟩⟩
theorem andD_one {z : Nat} : andD (.int z) (.int 1) = some (.int (z % 2 : Nat)) := by rw [andD_int, and_one]
theorem nx_tI (r : List Bool) : ((nx (true :: r) : Nat) : Int) - 1 = (nx r : Int) := by rw [nx_t]; omega
theorem ny_fI (r : List Bool) : ((ny (false :: r) : Nat) : Int) - 1 = (ny r : Int) := by rw [ny_f]; omega
theorem wxt : (wS [true] = ("x" : Str)) = True := by rw [wS_x]; exact eq_self _
theorem chr_nil : chrL (wS []) = [] := rfl
theorem chr_cons (b : Bool) (r : List Bool) : chrL (wS (b :: r)) = .str (wS [b]) :: chrL (wS r) := by
  unfold chrL
  rw [wS_list, wS_list, List.map_cons, List.map_cons]
  rfl
theorem wx (b : Bool) : (wS [b] = ("x" : Str)) = (b = true) := by
  rw [wS_x]
  exact propext ⟨fun h => by cases wS_inj h; rfl, fun h => by rw [h]⟩
theorem wxf : (wS [false] = ("x" : Str)) = False := by rw [wx]; exact eq_false Bool.false_ne_true
theorem key_ok {l : List Bool} {x y : Nat} {QF XF : D → List D → Prop} (q : QF (.int (keyL l x y)) [.str (wS l), .int x, .int y]) : OkF (fn_law_key [.str (wS l), .int x, .int y]) QF XF := by
  unfold fn_law_key
  simp (dsimp := false) only [↓okE_ok, ↓okE_ex, ↓okA_ok, ↓okA_ex, ↓okS_some, okD_some, okN_some, okL_some, okG_some, ↓okE_bind, ↓okE_aBind, ↓okS_bind, ↓okS_aBind, ↓okE_lift, ↓okE_V, ↓okE_C, ↓okE_1, ↓okE_2, ↓okA_nil, ↓okA_cons, ↓okE_B, ↓okE_Tup, ↓okE_Lst, tE2_bl, ↓okE_If, ↓okE_And, ↓okE_Or, nE_bl, ↓okE_Not, okB_some, ↓okE_Tru, cE_bl, ↓okE_Chain, ↓okE_Chain3, ↓okE_callR, ↓okE_Call, okI_ins, ↓okE_Prop, ↓okE_Meth, ↓okE_Make, okFs_ins, ↓okE_Fld, okT_str, ↓okE_Txt, ↓okE_Cel, okRS_str, ↓okE_RevS, ↓okE_RevL, ↓okE_RevT, tupRev_tup, rev_two, bitsD_int, b_gcd_int, b_comb_ok, b_tuple_tup, b_tuple_lst, b_str_str, b_str_int, addD_lst, addD_tup, catD_lst, repD_lst, mulD_lst, k_zip_lst, k_rev_lst, b_list_lst, b_list_tup, okSl_nn, okSl_in, okSl_ni, okSl_ii, ↓okE_Sl, ↓okE_No, okBd_int, ↓okE_Bd, ↓okE_iL, ↓okE_iT, ↓okE_iS, ↓okE_iA, okC_lst, ↓okE_Comp, okMu_some, ↓okE_Mut, ↓seqK_nx, ↓seqK_rt, ↓seqK_ex, ↓seqK_bk, ↓seqK_ct, ↓okS_Seq, ↓okS_Next, ↓okS_Dead, ↓okS_Brk, ↓okS_Ct, ↓okS_RetN, ↓okS_Raise, ↓okS_Ret, ↓okS_Expr, ↓okS_Set, ↓okS_Par, ↓okS_Aug, ↓okS_Asg, ↓okS_If, okX_some, okZ_int, ↓okS_Sub, okFp_ins, ↓okS_Fld, ↓retK_nx, ↓retK_rt, ↓retK_ex, ↓okF_run, okF_val, okF_exc, ↓lpK_nx, ↓lpK_ct, ↓lpK_bk, ↓lpK_rt, ↓lpK_ex, ↓okS_For, List.getElem?_cons_zero, List.getElem?_cons_succ, List.set_cons_zero, List.set_cons_succ, List.map_cons, List.map_nil, List.length_cons, List.length_nil, List.replicate_succ, List.replicate_zero, List.cons_append, List.nil_append, Option.join_some, Option.getD_some, Option.bind_some, Option.map_some, stD_cons, stD_nil, tgtD_nm, tgtD_tp, tgtsD_nil, tgtsD_cons, argD_full, argD_own, argD_root, argD_cel, argD_nil, putC_full, putC_own, putC_root, putC_cel, putC_nil, outs_t, outs_f, outs_nil, subD_int, addD_int, subI_int, addI_int, mulD_ok, modD_ok, divD_ok, pow1018, pow1015, powD_ok, shlD_ok, shrD_ok, addD_str, mulD_str, b_sum_2, b_len_str, b_len_lst, b_len_tup, k_enumT_str, k_enum_lst, okMu_app, okMu_ext, okL_rng1, okL_rng2, andD_int, xorD_int, negD_int, ltD_int, leD_int, gtD_int, geD_int, eqD_int, eqD_str, eqD_bl, neD_int, neD_str, neD_bl, ixL_0, ixL_1, ixL_2, ixL_3, ixT_0, ixT_1, ixT_2, ixT_3, ixN_0, ixN_1, ixN_2, ixN_3, isD_non, isntD_non, isN, b_int_int, b_int_bl, b_max2_int, b_min2_int, b_abs_int, m_count_str, listD_lst, listD_slst, tupD, strD, decide_eq_true_eq, decide_eq_false_iff_not, decide_true, decide_false, eq_self, and_true, true_and, if_true, if_false, Bool.false_eq_true, ↓reduceIte, Nat.reduceAdd, Nat.reduceSub, Nat.reduceLT, ite_true, ite_false, Bool.not_true, Bool.not_false, Int.toNat_natCast, Int.reduceLT, Int.reduceLE, Int.reduceToNat, Int.reduceMul, Int.reduceAdd, Int.reduceSub, Int.reduceEq, Nat.reduceLeDiff, Nat.reduceMul, List.lookup_cons_self, count_x, count_y]
  refine loop_inv (fun ds ρ => ∃ (r : List Bool) (f : Nat) (y6 : Option D), ds = chrL (wS r) ∧ f * 2 ^ r.length + keyL r x y = keyL l x y ∧ ρ = [some (.str (wS l)), some (.int x), some (.int y), some (.int f), some (.int (nx r)), some (.int (ny r)), y6]) ?_ ?_ _ _ ⟨l, 0, none, rfl, by omega, rfl⟩
  · rintro d ds ρ ⟨r, f, y6, hd, hf, rfl⟩
    cases r with
    | nil => rw [chr_nil] at hd; cases hd
    | cons b r =>
      rw [chr_cons] at hd
      cases hd
      rw [List.length_cons, Nat.pow_succ] at hf
      cases b with
      | true =>
        simp (dsimp := false) only [↓okE_ok, ↓okE_ex, ↓okA_ok, ↓okA_ex, ↓okS_some, okD_some, okN_some, okL_some, okG_some, ↓okE_bind, ↓okE_aBind, ↓okS_bind, ↓okS_aBind, ↓okE_lift, ↓okE_V, ↓okE_C, ↓okE_1, ↓okE_2, ↓okA_nil, ↓okA_cons, ↓okE_B, ↓okE_Tup, ↓okE_Lst, tE2_bl, ↓okE_If, ↓okE_And, ↓okE_Or, nE_bl, ↓okE_Not, okB_some, ↓okE_Tru, cE_bl, ↓okE_Chain, ↓okE_Chain3, ↓okE_callR, ↓okE_Call, okI_ins, ↓okE_Prop, ↓okE_Meth, ↓okE_Make, okFs_ins, ↓okE_Fld, okT_str, ↓okE_Txt, ↓okE_Cel, okRS_str, ↓okE_RevS, ↓okE_RevL, ↓okE_RevT, tupRev_tup, rev_two, bitsD_int, b_gcd_int, b_comb_ok, b_tuple_tup, b_tuple_lst, b_str_str, b_str_int, addD_lst, addD_tup, catD_lst, repD_lst, mulD_lst, k_zip_lst, k_rev_lst, b_list_lst, b_list_tup, okSl_nn, okSl_in, okSl_ni, okSl_ii, ↓okE_Sl, ↓okE_No, okBd_int, ↓okE_Bd, ↓okE_iL, ↓okE_iT, ↓okE_iS, ↓okE_iA, okC_lst, ↓okE_Comp, okMu_some, ↓okE_Mut, ↓seqK_nx, ↓seqK_rt, ↓seqK_ex, ↓seqK_bk, ↓seqK_ct, ↓okS_Seq, ↓okS_Next, ↓okS_Dead, ↓okS_Brk, ↓okS_Ct, ↓okS_RetN, ↓okS_Raise, ↓okS_Ret, ↓okS_Expr, ↓okS_Set, ↓okS_Par, ↓okS_Aug, ↓okS_Asg, ↓okS_If, okX_some, okZ_int, ↓okS_Sub, okFp_ins, ↓okS_Fld, ↓retK_nx, ↓retK_rt, ↓retK_ex, ↓okF_run, okF_val, okF_exc, ↓lpK_nx, ↓lpK_ct, ↓lpK_bk, ↓lpK_rt, ↓lpK_ex, ↓okS_For, List.getElem?_cons_zero, List.getElem?_cons_succ, List.set_cons_zero, List.set_cons_succ, List.map_cons, List.map_nil, List.length_cons, List.length_nil, List.replicate_succ, List.replicate_zero, List.cons_append, List.nil_append, Option.join_some, Option.getD_some, Option.bind_some, Option.map_some, stD_cons, stD_nil, tgtD_nm, tgtD_tp, tgtsD_nil, tgtsD_cons, argD_full, argD_own, argD_root, argD_cel, argD_nil, putC_full, putC_own, putC_root, putC_cel, putC_nil, outs_t, outs_f, outs_nil, subD_int, addD_int, subI_int, addI_int, mulD_ok, modD_ok, divD_ok, pow1018, pow1015, powD_ok, shlD_ok, addD_str, mulD_str, b_sum_2, b_len_str, b_len_lst, b_len_tup, k_enumT_str, k_enum_lst, okMu_app, okMu_ext, okL_rng1, okL_rng2, xorD_int, negD_int, ltD_int, leD_int, gtD_int, geD_int, eqD_int, eqD_str, eqD_bl, neD_int, neD_str, neD_bl, ixL_0, ixL_1, ixL_2, ixL_3, ixT_0, ixT_1, ixT_2, ixT_3, ixN_0, ixN_1, ixN_2, ixN_3, isD_non, isntD_non, isN, b_int_int, b_int_bl, b_max2_int, b_min2_int, b_abs_int, m_count_str, listD_lst, listD_slst, tupD, strD, decide_eq_true_eq, decide_eq_false_iff_not, decide_true, decide_false, eq_self, and_true, true_and, if_true, if_false, Bool.false_eq_true, ↓reduceIte, Nat.reduceAdd, Nat.reduceSub, Nat.reduceLT, ite_true, ite_false, Bool.not_true, Bool.not_false, Int.toNat_natCast, Int.reduceLT, Int.reduceLE, Int.reduceToNat, Int.reduceMul, Int.reduceAdd, Int.reduceSub, Int.reduceEq, Nat.reduceLeDiff, Nat.reduceMul, List.lookup_cons_self, wxt, nx_tI, shrD_nat, andD_one]
        refine ⟨mulL ⟨by decide, by decide⟩, r, 2 * f + x / 2 ^ nx r % 2, some (.str (wS [true])), rfl, ?_, by rw [ny_t]; rfl⟩
        rw [← hf, show keyL (true :: r) x y = x / 2 ^ nx r % 2 * 2 ^ r.length + keyL r x y from rfl, Nat.add_mul, Nat.mul_comm 2 f, Nat.mul_assoc, Nat.mul_comm 2 (2 ^ r.length)]
        omega
      | false =>
        simp (dsimp := false) only [↓okE_ok, ↓okE_ex, ↓okA_ok, ↓okA_ex, ↓okS_some, okD_some, okN_some, okL_some, okG_some, ↓okE_bind, ↓okE_aBind, ↓okS_bind, ↓okS_aBind, ↓okE_lift, ↓okE_V, ↓okE_C, ↓okE_1, ↓okE_2, ↓okA_nil, ↓okA_cons, ↓okE_B, ↓okE_Tup, ↓okE_Lst, tE2_bl, ↓okE_If, ↓okE_And, ↓okE_Or, nE_bl, ↓okE_Not, okB_some, ↓okE_Tru, cE_bl, ↓okE_Chain, ↓okE_Chain3, ↓okE_callR, ↓okE_Call, okI_ins, ↓okE_Prop, ↓okE_Meth, ↓okE_Make, okFs_ins, ↓okE_Fld, okT_str, ↓okE_Txt, ↓okE_Cel, okRS_str, ↓okE_RevS, ↓okE_RevL, ↓okE_RevT, tupRev_tup, rev_two, bitsD_int, b_gcd_int, b_comb_ok, b_tuple_tup, b_tuple_lst, b_str_str, b_str_int, addD_lst, addD_tup, catD_lst, repD_lst, mulD_lst, k_zip_lst, k_rev_lst, b_list_lst, b_list_tup, okSl_nn, okSl_in, okSl_ni, okSl_ii, ↓okE_Sl, ↓okE_No, okBd_int, ↓okE_Bd, ↓okE_iL, ↓okE_iT, ↓okE_iS, ↓okE_iA, okC_lst, ↓okE_Comp, okMu_some, ↓okE_Mut, ↓seqK_nx, ↓seqK_rt, ↓seqK_ex, ↓seqK_bk, ↓seqK_ct, ↓okS_Seq, ↓okS_Next, ↓okS_Dead, ↓okS_Brk, ↓okS_Ct, ↓okS_RetN, ↓okS_Raise, ↓okS_Ret, ↓okS_Expr, ↓okS_Set, ↓okS_Par, ↓okS_Aug, ↓okS_Asg, ↓okS_If, okX_some, okZ_int, ↓okS_Sub, okFp_ins, ↓okS_Fld, ↓retK_nx, ↓retK_rt, ↓retK_ex, ↓okF_run, okF_val, okF_exc, ↓lpK_nx, ↓lpK_ct, ↓lpK_bk, ↓lpK_rt, ↓lpK_ex, ↓okS_For, List.getElem?_cons_zero, List.getElem?_cons_succ, List.set_cons_zero, List.set_cons_succ, List.map_cons, List.map_nil, List.length_cons, List.length_nil, List.replicate_succ, List.replicate_zero, List.cons_append, List.nil_append, Option.join_some, Option.getD_some, Option.bind_some, Option.map_some, stD_cons, stD_nil, tgtD_nm, tgtD_tp, tgtsD_nil, tgtsD_cons, argD_full, argD_own, argD_root, argD_cel, argD_nil, putC_full, putC_own, putC_root, putC_cel, putC_nil, outs_t, outs_f, outs_nil, subD_int, addD_int, subI_int, addI_int, mulD_ok, modD_ok, divD_ok, pow1018, pow1015, powD_ok, shlD_ok, addD_str, mulD_str, b_sum_2, b_len_str, b_len_lst, b_len_tup, k_enumT_str, k_enum_lst, okMu_app, okMu_ext, okL_rng1, okL_rng2, xorD_int, negD_int, ltD_int, leD_int, gtD_int, geD_int, eqD_int, eqD_str, eqD_bl, neD_int, neD_str, neD_bl, ixL_0, ixL_1, ixL_2, ixL_3, ixT_0, ixT_1, ixT_2, ixT_3, ixN_0, ixN_1, ixN_2, ixN_3, isD_non, isntD_non, isN, b_int_int, b_int_bl, b_max2_int, b_min2_int, b_abs_int, m_count_str, listD_lst, listD_slst, tupD, strD, decide_eq_true_eq, decide_eq_false_iff_not, decide_true, decide_false, eq_self, and_true, true_and, if_true, if_false, Bool.false_eq_true, ↓reduceIte, Nat.reduceAdd, Nat.reduceSub, Nat.reduceLT, ite_true, ite_false, Bool.not_true, Bool.not_false, Int.toNat_natCast, Int.reduceLT, Int.reduceLE, Int.reduceToNat, Int.reduceMul, Int.reduceAdd, Int.reduceSub, Int.reduceEq, Nat.reduceLeDiff, Nat.reduceMul, List.lookup_cons_self, wxf, ny_fI, shrD_nat, andD_one]
        refine ⟨mulL ⟨by decide, by decide⟩, r, 2 * f + y / 2 ^ ny r % 2, some (.str (wS [false])), rfl, ?_, by rw [nx_f]; rfl⟩
        rw [← hf, show keyL (false :: r) x y = y / 2 ^ ny r % 2 * 2 ^ r.length + keyL r x y from rfl, Nat.add_mul, Nat.mul_comm 2 f, Nat.mul_assoc, Nat.mul_comm 2 (2 ^ r.length)]
        omega
  · rintro ρ ⟨r, f, y6, hd, hf, rfl⟩
    cases r with
    | cons b r => rw [chr_cons] at hd; cases hd
    | nil =>
      simp (dsimp := false) only [↓okE_ok, ↓okE_ex, ↓okA_ok, ↓okA_ex, ↓okS_some, okD_some, okN_some, okL_some, okG_some, ↓okE_bind, ↓okE_aBind, ↓okS_bind, ↓okS_aBind, ↓okE_lift, ↓okE_V, ↓okE_C, ↓okE_1, ↓okE_2, ↓okA_nil, ↓okA_cons, ↓okE_B, ↓okE_Tup, ↓okE_Lst, tE2_bl, ↓okE_If, ↓okE_And, ↓okE_Or, nE_bl, ↓okE_Not, okB_some, ↓okE_Tru, cE_bl, ↓okE_Chain, ↓okE_Chain3, ↓okE_callR, ↓okE_Call, okI_ins, ↓okE_Prop, ↓okE_Meth, ↓okE_Make, okFs_ins, ↓okE_Fld, okT_str, ↓okE_Txt, ↓okE_Cel, okRS_str, ↓okE_RevS, ↓okE_RevL, ↓okE_RevT, tupRev_tup, rev_two, bitsD_int, b_gcd_int, b_comb_ok, b_tuple_tup, b_tuple_lst, b_str_str, b_str_int, addD_lst, addD_tup, catD_lst, repD_lst, mulD_lst, k_zip_lst, k_rev_lst, b_list_lst, b_list_tup, okSl_nn, okSl_in, okSl_ni, okSl_ii, ↓okE_Sl, ↓okE_No, okBd_int, ↓okE_Bd, ↓okE_iL, ↓okE_iT, ↓okE_iS, ↓okE_iA, okC_lst, ↓okE_Comp, okMu_some, ↓okE_Mut, ↓seqK_nx, ↓seqK_rt, ↓seqK_ex, ↓seqK_bk, ↓seqK_ct, ↓okS_Seq, ↓okS_Next, ↓okS_Dead, ↓okS_Brk, ↓okS_Ct, ↓okS_RetN, ↓okS_Raise, ↓okS_Ret, ↓okS_Expr, ↓okS_Set, ↓okS_Par, ↓okS_Aug, ↓okS_Asg, ↓okS_If, okX_some, okZ_int, ↓okS_Sub, okFp_ins, ↓okS_Fld, ↓retK_nx, ↓retK_rt, ↓retK_ex, ↓okF_run, okF_val, okF_exc, ↓lpK_nx, ↓lpK_ct, ↓lpK_bk, ↓lpK_rt, ↓lpK_ex, ↓okS_For, List.getElem?_cons_zero, List.getElem?_cons_succ, List.set_cons_zero, List.set_cons_succ, List.map_cons, List.map_nil, List.length_cons, List.length_nil, List.replicate_succ, List.replicate_zero, List.cons_append, List.nil_append, Option.join_some, Option.getD_some, Option.bind_some, Option.map_some, stD_cons, stD_nil, tgtD_nm, tgtD_tp, tgtsD_nil, tgtsD_cons, argD_full, argD_own, argD_root, argD_cel, argD_nil, putC_full, putC_own, putC_root, putC_cel, putC_nil, outs_t, outs_f, outs_nil, subD_int, addD_int, subI_int, addI_int, mulD_ok, modD_ok, divD_ok, pow1018, pow1015, powD_ok, shlD_ok, shrD_ok, addD_str, mulD_str, b_sum_2, b_len_str, b_len_lst, b_len_tup, k_enumT_str, k_enum_lst, okMu_app, okMu_ext, okL_rng1, okL_rng2, andD_int, xorD_int, negD_int, ltD_int, leD_int, gtD_int, geD_int, eqD_int, eqD_str, eqD_bl, neD_int, neD_str, neD_bl, ixL_0, ixL_1, ixL_2, ixL_3, ixT_0, ixT_1, ixT_2, ixT_3, ixN_0, ixN_1, ixN_2, ixN_3, isD_non, isntD_non, isN, b_int_int, b_int_bl, b_max2_int, b_min2_int, b_abs_int, m_count_str, listD_lst, listD_slst, tupD, strD, decide_eq_true_eq, decide_eq_false_iff_not, decide_true, decide_false, eq_self, and_true, true_and, if_true, if_false, Bool.false_eq_true, ↓reduceIte, Nat.reduceAdd, Nat.reduceSub, Nat.reduceLT, ite_true, ite_false, Bool.not_true, Bool.not_false, Int.toNat_natCast, Int.reduceLT, Int.reduceLE, Int.reduceToNat, Int.reduceMul, Int.reduceAdd, Int.reduceSub, Int.reduceEq, Nat.reduceLeDiff, Nat.reduceMul, List.lookup_cons_self]
      rw [show f = keyL l x y by rw [← hf]; simp [keyL]]
      exact q
/-! a Layout -/
theorem isi_int {i : Int} : b_isi itab [.int i, .ty "int"] = some (.bl true) := by
  show ((ITab.get itab (true, "int") (true, "int")).map D.bl) = _
  rw [show ITab.get itab (true, "int") (true, "int") = some true by decide +kernel]
  rfl
theorem isi_intb {i : Int} : b_isi itab [.int i, .ty "bool"] = some (.bl false) := by
  show ((ITab.get itab (true, "int") (true, "bool")).map D.bl) = _
  rw [show ITab.get itab (true, "int") (true, "bool") = some false by decide +kernel]
  rfl
theorem isi_tup {ds : List D} : b_isi itab [.tup ds, .ty "tuple"] = some (.bl true) := by
  show ((ITab.get itab (true, "tuple") (true, "tuple")).map D.bl) = _
  rw [show ITab.get itab (true, "tuple") (true, "tuple") = some true by decide +kernel]
  rfl

end
section
variable {QF XF : D → List D → Prop}
theorem is_integer_ok {i : Int} (q : QF (.bl true) [.int i]) : OkF (fn_is_integer [.int i]) QF XF := by
  unfold fn_is_integer
  simp (dsimp := false) only [↓okE_ok, ↓okE_ex, ↓okA_ok, ↓okA_ex, ↓okS_some, okD_some, okN_some, okL_some, okG_some, ↓okE_bind, ↓okE_aBind, ↓okS_bind, ↓okS_aBind, ↓okE_lift, ↓okE_V, ↓okE_C, ↓okE_1, ↓okE_2, ↓okA_nil, ↓okA_cons, ↓okE_B, ↓okE_Tup, ↓okE_Lst, tE2_bl, ↓okE_If, ↓okE_And, ↓okE_Or, nE_bl, ↓okE_Not, okB_some, ↓okE_Tru, cE_bl, ↓okE_Chain, ↓okE_Chain3, ↓okE_callR, ↓okE_Call, okI_ins, ↓okE_Prop, ↓okE_Meth, ↓okE_Make, okFs_ins, ↓okE_Fld, okT_str, ↓okE_Txt, ↓okE_Cel, okRS_str, ↓okE_RevS, ↓okE_RevL, ↓okE_RevT, tupRev_tup, rev_two, bitsD_int, b_gcd_int, b_comb_ok, b_tuple_tup, b_tuple_lst, b_str_str, b_str_int, addD_lst, addD_tup, catD_lst, repD_lst, mulD_lst, k_zip_lst, k_rev_lst, b_list_lst, b_list_tup, okSl_nn, okSl_in, okSl_ni, okSl_ii, ↓okE_Sl, ↓okE_No, okBd_int, ↓okE_Bd, ↓okE_iL, ↓okE_iT, ↓okE_iS, ↓okE_iA, okC_lst, ↓okE_Comp, okMu_some, ↓okE_Mut, ↓seqK_nx, ↓seqK_rt, ↓seqK_ex, ↓seqK_bk, ↓seqK_ct, ↓okS_Seq, ↓okS_Next, ↓okS_Dead, ↓okS_Brk, ↓okS_Ct, ↓okS_RetN, ↓okS_Raise, ↓okS_Ret, ↓okS_Expr, ↓okS_Set, ↓okS_Par, ↓okS_Aug, ↓okS_Asg, ↓okS_If, okX_some, okZ_int, ↓okS_Sub, okFp_ins, ↓okS_Fld, ↓retK_nx, ↓retK_rt, ↓retK_ex, ↓okF_run, okF_val, okF_exc, ↓lpK_nx, ↓lpK_ct, ↓lpK_bk, ↓lpK_rt, ↓lpK_ex, ↓okS_For, List.getElem?_cons_zero, List.getElem?_cons_succ, List.set_cons_zero, List.set_cons_succ, List.map_cons, List.map_nil, List.length_cons, List.length_nil, List.replicate_succ, List.replicate_zero, List.cons_append, List.nil_append, Option.join_some, Option.getD_some, Option.bind_some, Option.map_some, stD_cons, stD_nil, tgtD_nm, tgtD_tp, tgtsD_nil, tgtsD_cons, argD_full, argD_own, argD_root, argD_cel, argD_nil, putC_full, putC_own, putC_root, putC_cel, putC_nil, outs_t, outs_f, outs_nil, subD_int, addD_int, subI_int, addI_int, mulD_ok, modD_ok, divD_ok, pow1018, pow1015, powD_ok, shlD_ok, shrD_ok, addD_str, mulD_str, b_sum_2, b_len_str, b_len_lst, b_len_tup, k_enumT_str, k_enum_lst, okMu_app, okMu_ext, okL_rng1, okL_rng2, andD_int, xorD_int, negD_int, ltD_int, leD_int, gtD_int, geD_int, eqD_int, eqD_str, eqD_bl, neD_int, neD_str, neD_bl, ixL_0, ixL_1, ixL_2, ixL_3, ixT_0, ixT_1, ixT_2, ixT_3, ixN_0, ixN_1, ixN_2, ixN_3, isD_non, isntD_non, isN, b_int_int, b_int_bl, b_max2_int, b_min2_int, b_abs_int, m_count_str, listD_lst, listD_slst, tupD, strD, decide_eq_true_eq, decide_eq_false_iff_not, decide_true, decide_false, eq_self, and_true, true_and, if_true, if_false, Bool.false_eq_true, ↓reduceIte, Nat.reduceAdd, Nat.reduceSub, Nat.reduceLT, ite_true, ite_false, Bool.not_true, Bool.not_false, Int.toNat_natCast, Int.reduceLT, Int.reduceLE, Int.reduceToNat, Int.reduceMul, Int.reduceAdd, Int.reduceSub, Int.reduceEq, Nat.reduceLeDiff, Nat.reduceMul, List.lookup_cons_self, isi_int, isi_intb]
  exact q
theorem is_between_ok {i a b : Int} (q : QF (.bl (decide (a ≤ i ∧ i ≤ b))) [.int i, .int a, .int b]) : OkF (fn_is_between [.int i, .int a, .int b]) QF XF := by
  unfold fn_is_between
  simp (dsimp := false) only [↓okE_ok, ↓okE_ex, ↓okA_ok, ↓okA_ex, ↓okS_some, okD_some, okN_some, okL_some, okG_some, ↓okE_bind, ↓okE_aBind, ↓okS_bind, ↓okS_aBind, ↓okE_lift, ↓okE_V, ↓okE_C, ↓okE_1, ↓okE_2, ↓okA_nil, ↓okA_cons, ↓okE_B, ↓okE_Tup, ↓okE_Lst, tE2_bl, ↓okE_If, ↓okE_And, ↓okE_Or, nE_bl, ↓okE_Not, okB_some, ↓okE_Tru, cE_bl, ↓okE_Chain, ↓okE_Chain3, ↓okE_callR, ↓okE_Call, okI_ins, ↓okE_Prop, ↓okE_Meth, ↓okE_Make, okFs_ins, ↓okE_Fld, okT_str, ↓okE_Txt, ↓okE_Cel, okRS_str, ↓okE_RevS, ↓okE_RevL, ↓okE_RevT, tupRev_tup, rev_two, bitsD_int, b_gcd_int, b_comb_ok, b_tuple_tup, b_tuple_lst, b_str_str, b_str_int, addD_lst, addD_tup, catD_lst, repD_lst, mulD_lst, k_zip_lst, k_rev_lst, b_list_lst, b_list_tup, okSl_nn, okSl_in, okSl_ni, okSl_ii, ↓okE_Sl, ↓okE_No, okBd_int, ↓okE_Bd, ↓okE_iL, ↓okE_iT, ↓okE_iS, ↓okE_iA, okC_lst, ↓okE_Comp, okMu_some, ↓okE_Mut, ↓seqK_nx, ↓seqK_rt, ↓seqK_ex, ↓seqK_bk, ↓seqK_ct, ↓okS_Seq, ↓okS_Next, ↓okS_Dead, ↓okS_Brk, ↓okS_Ct, ↓okS_RetN, ↓okS_Raise, ↓okS_Ret, ↓okS_Expr, ↓okS_Set, ↓okS_Par, ↓okS_Aug, ↓okS_Asg, ↓okS_If, okX_some, okZ_int, ↓okS_Sub, okFp_ins, ↓okS_Fld, ↓retK_nx, ↓retK_rt, ↓retK_ex, ↓okF_run, okF_val, okF_exc, ↓lpK_nx, ↓lpK_ct, ↓lpK_bk, ↓lpK_rt, ↓lpK_ex, ↓okS_For, List.getElem?_cons_zero, List.getElem?_cons_succ, List.set_cons_zero, List.set_cons_succ, List.map_cons, List.map_nil, List.length_cons, List.length_nil, List.replicate_succ, List.replicate_zero, List.cons_append, List.nil_append, Option.join_some, Option.getD_some, Option.bind_some, Option.map_some, stD_cons, stD_nil, tgtD_nm, tgtD_tp, tgtsD_nil, tgtsD_cons, argD_full, argD_own, argD_root, argD_cel, argD_nil, putC_full, putC_own, putC_root, putC_cel, putC_nil, outs_t, outs_f, outs_nil, subD_int, addD_int, subI_int, addI_int, mulD_ok, modD_ok, divD_ok, pow1018, pow1015, powD_ok, shlD_ok, shrD_ok, addD_str, mulD_str, b_sum_2, b_len_str, b_len_lst, b_len_tup, k_enumT_str, k_enum_lst, okMu_app, okMu_ext, okL_rng1, okL_rng2, andD_int, xorD_int, negD_int, ltD_int, leD_int, gtD_int, geD_int, eqD_int, eqD_str, eqD_bl, neD_int, neD_str, neD_bl, ixL_0, ixL_1, ixL_2, ixL_3, ixT_0, ixT_1, ixT_2, ixT_3, ixN_0, ixN_1, ixN_2, ixN_3, isD_non, isntD_non, isN, b_int_int, b_int_bl, b_max2_int, b_min2_int, b_abs_int, m_count_str, listD_lst, listD_slst, tupD, strD, decide_eq_true_eq, decide_eq_false_iff_not, decide_true, decide_false, eq_self, and_true, true_and, if_true, if_false, Bool.false_eq_true, ↓reduceIte, Nat.reduceAdd, Nat.reduceSub, Nat.reduceLT, ite_true, ite_false, Bool.not_true, Bool.not_false, Int.toNat_natCast, Int.reduceLT, Int.reduceLE, Int.reduceToNat, Int.reduceMul, Int.reduceAdd, Int.reduceSub, Int.reduceEq, Nat.reduceLeDiff, Nat.reduceMul, List.lookup_cons_self]
  refine is_integer_ok ?_
  simp (dsimp := false) only [↓okE_ok, ↓okE_ex, ↓okA_ok, ↓okA_ex, ↓okS_some, okD_some, okN_some, okL_some, okG_some, ↓okE_bind, ↓okE_aBind, ↓okS_bind, ↓okS_aBind, ↓okE_lift, ↓okE_V, ↓okE_C, ↓okE_1, ↓okE_2, ↓okA_nil, ↓okA_cons, ↓okE_B, ↓okE_Tup, ↓okE_Lst, tE2_bl, ↓okE_If, ↓okE_And, ↓okE_Or, nE_bl, ↓okE_Not, okB_some, ↓okE_Tru, cE_bl, ↓okE_Chain, ↓okE_Chain3, ↓okE_callR, ↓okE_Call, okI_ins, ↓okE_Prop, ↓okE_Meth, ↓okE_Make, okFs_ins, ↓okE_Fld, okT_str, ↓okE_Txt, ↓okE_Cel, okRS_str, ↓okE_RevS, ↓okE_RevL, ↓okE_RevT, tupRev_tup, rev_two, bitsD_int, b_gcd_int, b_comb_ok, b_tuple_tup, b_tuple_lst, b_str_str, b_str_int, addD_lst, addD_tup, catD_lst, repD_lst, mulD_lst, k_zip_lst, k_rev_lst, b_list_lst, b_list_tup, okSl_nn, okSl_in, okSl_ni, okSl_ii, ↓okE_Sl, ↓okE_No, okBd_int, ↓okE_Bd, ↓okE_iL, ↓okE_iT, ↓okE_iS, ↓okE_iA, okC_lst, ↓okE_Comp, okMu_some, ↓okE_Mut, ↓seqK_nx, ↓seqK_rt, ↓seqK_ex, ↓seqK_bk, ↓seqK_ct, ↓okS_Seq, ↓okS_Next, ↓okS_Dead, ↓okS_Brk, ↓okS_Ct, ↓okS_RetN, ↓okS_Raise, ↓okS_Ret, ↓okS_Expr, ↓okS_Set, ↓okS_Par, ↓okS_Aug, ↓okS_Asg, ↓okS_If, okX_some, okZ_int, ↓okS_Sub, okFp_ins, ↓okS_Fld, ↓retK_nx, ↓retK_rt, ↓retK_ex, ↓okF_run, okF_val, okF_exc, ↓lpK_nx, ↓lpK_ct, ↓lpK_bk, ↓lpK_rt, ↓lpK_ex, ↓okS_For, List.getElem?_cons_zero, List.getElem?_cons_succ, List.set_cons_zero, List.set_cons_succ, List.map_cons, List.map_nil, List.length_cons, List.length_nil, List.replicate_succ, List.replicate_zero, List.cons_append, List.nil_append, Option.join_some, Option.getD_some, Option.bind_some, Option.map_some, stD_cons, stD_nil, tgtD_nm, tgtD_tp, tgtsD_nil, tgtsD_cons, argD_full, argD_own, argD_root, argD_cel, argD_nil, putC_full, putC_own, putC_root, putC_cel, putC_nil, outs_t, outs_f, outs_nil, subD_int, addD_int, subI_int, addI_int, mulD_ok, modD_ok, divD_ok, pow1018, pow1015, powD_ok, shlD_ok, shrD_ok, addD_str, mulD_str, b_sum_2, b_len_str, b_len_lst, b_len_tup, k_enumT_str, k_enum_lst, okMu_app, okMu_ext, okL_rng1, okL_rng2, andD_int, xorD_int, negD_int, ltD_int, leD_int, gtD_int, geD_int, eqD_int, eqD_str, eqD_bl, neD_int, neD_str, neD_bl, ixL_0, ixL_1, ixL_2, ixL_3, ixT_0, ixT_1, ixT_2, ixT_3, ixN_0, ixN_1, ixN_2, ixN_3, isD_non, isntD_non, isN, b_int_int, b_int_bl, b_max2_int, b_min2_int, b_abs_int, m_count_str, listD_lst, listD_slst, tupD, strD, decide_eq_true_eq, decide_eq_false_iff_not, decide_true, decide_false, eq_self, and_true, true_and, if_true, if_false, Bool.false_eq_true, ↓reduceIte, Nat.reduceAdd, Nat.reduceSub, Nat.reduceLT, ite_true, ite_false, Bool.not_true, Bool.not_false, Int.toNat_natCast, Int.reduceLT, Int.reduceLE, Int.reduceToNat, Int.reduceMul, Int.reduceAdd, Int.reduceSub, Int.reduceEq, Nat.reduceLeDiff, Nat.reduceMul, List.lookup_cons_self]
  by_cases h1 : a ≤ i <;> by_cases h2 : i ≤ b <;> simp only [h1, h2, if_true, if_false, decide_true, decide_false, and_true, and_false, true_and, false_and] at q ⊢ <;> exact q
theorem shl1_nat {n : Nat} (h : n ≤ 1000) {P : D → Prop} : OkD (shlD (.int 1) (.int n)) P = P (.int (2 ^ n : Nat)) := by rw [shl1_ok h, okD_some]
/-! parts -/
end
section
variable {QF XF : D → List D → Prop}
theorem is_between_eq {i a b : Int} : fn_is_between [.int i, .int a, .int b] = some (.ok (.bl (decide (a ≤ i ∧ i ≤ b))) [.int i, .int a, .int b]) := eqF (is_between_ok ⟨rfl, rfl⟩)
end
section
variable {QF XF : D → List D → Prop}
theorem key_eq {l : List Bool} {x y : Nat} : fn_law_key [.str (wS l), .int x, .int y] = some (.ok (.int (keyL l x y)) [.str (wS l), .int x, .int y]) := eqF (key_ok ⟨rfl, rfl⟩)
end
section
variable {QF XF : D → List D → Prop}
end
section
theorem cut_ints {ns : List Int} {lo hi : Option Int} : ∃ cs : List Int, cs.length ≤ ns.length ∧ slL (.slst ns) lo hi = some (.lst (cs.map .int)) :=
  ⟨(ns.drop (HT.sIx (ns.map D.int).length 0 lo)).take (HT.sIx (ns.map D.int).length (ns.map D.int).length hi - HT.sIx (ns.map D.int).length 0 lo), by rw [List.length_take, List.length_drop]; omega, by
    show (some (ns.map D.int)).map (fun ds => D.lst (Mi.cutD ds lo hi)) = _
    unfold Mi.cutD
    rw [List.map_take, List.map_drop]
    rfl⟩

end
section
variable {QF XF : D → List D → Prop}
theorem are2_eq {a b : Int} : fn_are_integers [.tup [.int a, .int b], .int 2] = some (.ok (.bl true) [.tup [.int a, .int b], .int 2]) := eqF (by
  unfold fn_are_integers
  simp (dsimp := false) only [↓okE_ok, ↓okE_ex, ↓okA_ok, ↓okA_ex, ↓okS_some, okD_some, okN_some, okL_some, okG_some, ↓okE_bind, ↓okE_aBind, ↓okS_bind, ↓okS_aBind, ↓okE_lift, ↓okE_V, ↓okE_C, ↓okE_1, ↓okE_2, ↓okA_nil, ↓okA_cons, ↓okE_B, ↓okE_Tup, ↓okE_Lst, tE2_bl, ↓okE_If, ↓okE_And, ↓okE_Or, nE_bl, ↓okE_Not, okB_some, ↓okE_Tru, cE_bl, ↓okE_Chain, ↓okE_Chain3, ↓okE_callR, ↓okE_Call, okI_ins, ↓okE_Prop, ↓okE_Meth, ↓okE_Make, okFs_ins, ↓okE_Fld, okT_str, ↓okE_Txt, ↓okE_Cel, okRS_str, ↓okE_RevS, ↓okE_RevL, ↓okE_RevT, tupRev_tup, rev_two, bitsD_int, b_gcd_int, b_comb_ok, b_tuple_tup, b_tuple_lst, b_str_str, b_str_int, addD_lst, addD_tup, catD_lst, repD_lst, mulD_lst, k_zip_lst, k_rev_lst, b_list_lst, b_list_tup, okSl_nn, okSl_in, okSl_ni, okSl_ii, ↓okE_Sl, ↓okE_No, okBd_int, ↓okE_Bd, ↓okE_iL, ↓okE_iT, ↓okE_iS, ↓okE_iA, okC_lst, ↓okE_Comp, okMu_some, ↓okE_Mut, ↓seqK_nx, ↓seqK_rt, ↓seqK_ex, ↓seqK_bk, ↓seqK_ct, ↓okS_Seq, ↓okS_Next, ↓okS_Dead, ↓okS_Brk, ↓okS_Ct, ↓okS_RetN, ↓okS_Raise, ↓okS_Ret, ↓okS_Expr, ↓okS_Set, ↓okS_Par, ↓okS_Aug, ↓okS_Asg, ↓okS_If, okX_some, okZ_int, ↓okS_Sub, okFp_ins, ↓okS_Fld, ↓retK_nx, ↓retK_rt, ↓retK_ex, ↓okF_run, okF_val, okF_exc, ↓lpK_nx, ↓lpK_ct, ↓lpK_bk, ↓lpK_rt, ↓lpK_ex, ↓okS_For, List.getElem?_cons_zero, List.getElem?_cons_succ, List.set_cons_zero, List.set_cons_succ, List.map_cons, List.map_nil, List.length_cons, List.length_nil, List.replicate_succ, List.replicate_zero, List.cons_append, List.nil_append, Option.join_some, Option.getD_some, Option.bind_some, Option.map_some, stD_cons, stD_nil, tgtD_nm, tgtD_tp, tgtsD_nil, tgtsD_cons, argD_full, argD_own, argD_root, argD_cel, argD_nil, putC_full, putC_own, putC_root, putC_cel, putC_nil, outs_t, outs_f, outs_nil, subD_int, addD_int, subI_int, addI_int, mulD_ok, modD_ok, divD_ok, pow1018, pow1015, powD_ok, shlD_ok, shrD_ok, addD_str, mulD_str, b_sum_2, b_len_str, b_len_lst, b_len_tup, k_enumT_str, k_enum_lst, okMu_app, okMu_ext, okL_rng1, okL_rng2, andD_int, xorD_int, negD_int, ltD_int, leD_int, gtD_int, geD_int, eqD_int, eqD_str, eqD_bl, neD_int, neD_str, neD_bl, ixL_0, ixL_1, ixL_2, ixL_3, ixT_0, ixT_1, ixT_2, ixT_3, ixN_0, ixN_1, ixN_2, ixN_3, isD_non, isntD_non, isN, b_int_int, b_int_bl, b_max2_int, b_min2_int, b_abs_int, m_count_str, listD_lst, listD_slst, tupD, strD, decide_eq_true_eq, decide_eq_false_iff_not, decide_true, decide_false, eq_self, and_true, true_and, if_true, if_false, Bool.false_eq_true, ↓reduceIte, Nat.reduceAdd, Nat.reduceSub, Nat.reduceLT, ite_true, ite_false, Bool.not_true, Bool.not_false, Int.toNat_natCast, Int.reduceLT, Int.reduceLE, Int.reduceToNat, Int.reduceMul, Int.reduceAdd, Int.reduceSub, Int.reduceEq, Nat.reduceLeDiff, Nat.reduceMul, List.lookup_cons_self, isi_tup]
  rw [if_neg (by decide), compF_map (gD := fun _ => D.bl true) [.int a, .int b] [] (show 0 + 2 ≤ sizeLine from by decide) fun e he => ?_]
  · simp (dsimp := false) only [↓okE_ok, ↓okE_ex, ↓okA_ok, ↓okA_ex, ↓okS_some, okD_some, okN_some, okL_some, okG_some, ↓okE_bind, ↓okE_aBind, ↓okS_bind, ↓okS_aBind, ↓okE_lift, ↓okE_V, ↓okE_C, ↓okE_1, ↓okE_2, ↓okA_nil, ↓okA_cons, ↓okE_B, ↓okE_Tup, ↓okE_Lst, tE2_bl, ↓okE_If, ↓okE_And, ↓okE_Or, nE_bl, ↓okE_Not, okB_some, ↓okE_Tru, cE_bl, ↓okE_Chain, ↓okE_Chain3, ↓okE_callR, ↓okE_Call, okI_ins, ↓okE_Prop, ↓okE_Meth, ↓okE_Make, okFs_ins, ↓okE_Fld, okT_str, ↓okE_Txt, ↓okE_Cel, okRS_str, ↓okE_RevS, ↓okE_RevL, ↓okE_RevT, tupRev_tup, rev_two, bitsD_int, b_gcd_int, b_comb_ok, b_tuple_tup, b_tuple_lst, b_str_str, b_str_int, addD_lst, addD_tup, catD_lst, repD_lst, mulD_lst, k_zip_lst, k_rev_lst, b_list_lst, b_list_tup, okSl_nn, okSl_in, okSl_ni, okSl_ii, ↓okE_Sl, ↓okE_No, okBd_int, ↓okE_Bd, ↓okE_iL, ↓okE_iT, ↓okE_iS, ↓okE_iA, okC_lst, ↓okE_Comp, okMu_some, ↓okE_Mut, ↓seqK_nx, ↓seqK_rt, ↓seqK_ex, ↓seqK_bk, ↓seqK_ct, ↓okS_Seq, ↓okS_Next, ↓okS_Dead, ↓okS_Brk, ↓okS_Ct, ↓okS_RetN, ↓okS_Raise, ↓okS_Ret, ↓okS_Expr, ↓okS_Set, ↓okS_Par, ↓okS_Aug, ↓okS_Asg, ↓okS_If, okX_some, okZ_int, ↓okS_Sub, okFp_ins, ↓okS_Fld, ↓retK_nx, ↓retK_rt, ↓retK_ex, ↓okF_run, okF_val, okF_exc, ↓lpK_nx, ↓lpK_ct, ↓lpK_bk, ↓lpK_rt, ↓lpK_ex, ↓okS_For, List.getElem?_cons_zero, List.getElem?_cons_succ, List.set_cons_zero, List.set_cons_succ, List.map_cons, List.map_nil, List.length_cons, List.length_nil, List.replicate_succ, List.replicate_zero, List.cons_append, List.nil_append, Option.join_some, Option.getD_some, Option.bind_some, Option.map_some, stD_cons, stD_nil, tgtD_nm, tgtD_tp, tgtsD_nil, tgtsD_cons, argD_full, argD_own, argD_root, argD_cel, argD_nil, putC_full, putC_own, putC_root, putC_cel, putC_nil, outs_t, outs_f, outs_nil, subD_int, addD_int, subI_int, addI_int, mulD_ok, modD_ok, divD_ok, pow1018, pow1015, powD_ok, shlD_ok, shrD_ok, addD_str, mulD_str, b_sum_2, b_len_str, b_len_lst, b_len_tup, k_enumT_str, k_enum_lst, okMu_app, okMu_ext, okL_rng1, okL_rng2, andD_int, xorD_int, negD_int, ltD_int, leD_int, gtD_int, geD_int, eqD_int, eqD_str, eqD_bl, neD_int, neD_str, neD_bl, ixL_0, ixL_1, ixL_2, ixL_3, ixT_0, ixT_1, ixT_2, ixT_3, ixN_0, ixN_1, ixN_2, ixN_3, isD_non, isntD_non, isN, b_int_int, b_int_bl, b_max2_int, b_min2_int, b_abs_int, m_count_str, listD_lst, listD_slst, tupD, strD, decide_eq_true_eq, decide_eq_false_iff_not, decide_true, decide_false, eq_self, and_true, true_and, if_true, if_false, Bool.false_eq_true, ↓reduceIte, Nat.reduceAdd, Nat.reduceSub, Nat.reduceLT, ite_true, ite_false, Bool.not_true, Bool.not_false, Int.toNat_natCast, Int.reduceLT, Int.reduceLE, Int.reduceToNat, Int.reduceMul, Int.reduceAdd, Int.reduceSub, Int.reduceEq, Nat.reduceLeDiff, Nat.reduceMul, List.lookup_cons_self, show b_all [D.lst [D.bl true, D.bl true]] = some (.bl true) from rfl]
  · have h0 : ∃ i, e = D.int i := by
      simp only [List.mem_cons, List.not_mem_nil, or_false] at he
      rcases he with rfl | rfl <;> exact ⟨_, rfl⟩
    obtain ⟨i, rfl⟩ := h0
    refine ⟨_, rfl, okE_eq ?_, rfl⟩
    simp (dsimp := false) only [↓okE_ok, ↓okE_ex, ↓okA_ok, ↓okA_ex, ↓okS_some, okD_some, okN_some, okL_some, okG_some, ↓okE_bind, ↓okE_aBind, ↓okS_bind, ↓okS_aBind, ↓okE_lift, ↓okE_V, ↓okE_C, ↓okE_1, ↓okE_2, ↓okA_nil, ↓okA_cons, ↓okE_B, ↓okE_Tup, ↓okE_Lst, tE2_bl, ↓okE_If, ↓okE_And, ↓okE_Or, nE_bl, ↓okE_Not, okB_some, ↓okE_Tru, cE_bl, ↓okE_Chain, ↓okE_Chain3, ↓okE_callR, ↓okE_Call, okI_ins, ↓okE_Prop, ↓okE_Meth, ↓okE_Make, okFs_ins, ↓okE_Fld, okT_str, ↓okE_Txt, ↓okE_Cel, okRS_str, ↓okE_RevS, ↓okE_RevL, ↓okE_RevT, tupRev_tup, rev_two, bitsD_int, b_gcd_int, b_comb_ok, b_tuple_tup, b_tuple_lst, b_str_str, b_str_int, addD_lst, addD_tup, catD_lst, repD_lst, mulD_lst, k_zip_lst, k_rev_lst, b_list_lst, b_list_tup, okSl_nn, okSl_in, okSl_ni, okSl_ii, ↓okE_Sl, ↓okE_No, okBd_int, ↓okE_Bd, ↓okE_iL, ↓okE_iT, ↓okE_iS, ↓okE_iA, okC_lst, ↓okE_Comp, okMu_some, ↓okE_Mut, ↓seqK_nx, ↓seqK_rt, ↓seqK_ex, ↓seqK_bk, ↓seqK_ct, ↓okS_Seq, ↓okS_Next, ↓okS_Dead, ↓okS_Brk, ↓okS_Ct, ↓okS_RetN, ↓okS_Raise, ↓okS_Ret, ↓okS_Expr, ↓okS_Set, ↓okS_Par, ↓okS_Aug, ↓okS_Asg, ↓okS_If, okX_some, okZ_int, ↓okS_Sub, okFp_ins, ↓okS_Fld, ↓retK_nx, ↓retK_rt, ↓retK_ex, ↓okF_run, okF_val, okF_exc, ↓lpK_nx, ↓lpK_ct, ↓lpK_bk, ↓lpK_rt, ↓lpK_ex, ↓okS_For, List.getElem?_cons_zero, List.getElem?_cons_succ, List.set_cons_zero, List.set_cons_succ, List.map_cons, List.map_nil, List.length_cons, List.length_nil, List.replicate_succ, List.replicate_zero, List.cons_append, List.nil_append, Option.join_some, Option.getD_some, Option.bind_some, Option.map_some, stD_cons, stD_nil, tgtD_nm, tgtD_tp, tgtsD_nil, tgtsD_cons, argD_full, argD_own, argD_root, argD_cel, argD_nil, putC_full, putC_own, putC_root, putC_cel, putC_nil, outs_t, outs_f, outs_nil, subD_int, addD_int, subI_int, addI_int, mulD_ok, modD_ok, divD_ok, pow1018, pow1015, powD_ok, shlD_ok, shrD_ok, addD_str, mulD_str, b_sum_2, b_len_str, b_len_lst, b_len_tup, k_enumT_str, k_enum_lst, okMu_app, okMu_ext, okL_rng1, okL_rng2, andD_int, xorD_int, negD_int, ltD_int, leD_int, gtD_int, geD_int, eqD_int, eqD_str, eqD_bl, neD_int, neD_str, neD_bl, ixL_0, ixL_1, ixL_2, ixL_3, ixT_0, ixT_1, ixT_2, ixT_3, ixN_0, ixN_1, ixN_2, ixN_3, isD_non, isntD_non, isN, b_int_int, b_int_bl, b_max2_int, b_min2_int, b_abs_int, m_count_str, listD_lst, listD_slst, tupD, strD, decide_eq_true_eq, decide_eq_false_iff_not, decide_true, decide_false, eq_self, and_true, true_and, if_true, if_false, Bool.false_eq_true, ↓reduceIte, Nat.reduceAdd, Nat.reduceSub, Nat.reduceLT, ite_true, ite_false, Bool.not_true, Bool.not_false, Int.toNat_natCast, Int.reduceLT, Int.reduceLE, Int.reduceToNat, Int.reduceMul, Int.reduceAdd, Int.reduceSub, Int.reduceEq, Nat.reduceLeDiff, Nat.reduceMul, List.lookup_cons_self, wipeD]
    refine is_integer_ok ?_
    simp (dsimp := false) only [↓okE_ok, ↓okE_ex, ↓okA_ok, ↓okA_ex, ↓okS_some, okD_some, okN_some, okL_some, okG_some, ↓okE_bind, ↓okE_aBind, ↓okS_bind, ↓okS_aBind, ↓okE_lift, ↓okE_V, ↓okE_C, ↓okE_1, ↓okE_2, ↓okA_nil, ↓okA_cons, ↓okE_B, ↓okE_Tup, ↓okE_Lst, tE2_bl, ↓okE_If, ↓okE_And, ↓okE_Or, nE_bl, ↓okE_Not, okB_some, ↓okE_Tru, cE_bl, ↓okE_Chain, ↓okE_Chain3, ↓okE_callR, ↓okE_Call, okI_ins, ↓okE_Prop, ↓okE_Meth, ↓okE_Make, okFs_ins, ↓okE_Fld, okT_str, ↓okE_Txt, ↓okE_Cel, okRS_str, ↓okE_RevS, ↓okE_RevL, ↓okE_RevT, tupRev_tup, rev_two, bitsD_int, b_gcd_int, b_comb_ok, b_tuple_tup, b_tuple_lst, b_str_str, b_str_int, addD_lst, addD_tup, catD_lst, repD_lst, mulD_lst, k_zip_lst, k_rev_lst, b_list_lst, b_list_tup, okSl_nn, okSl_in, okSl_ni, okSl_ii, ↓okE_Sl, ↓okE_No, okBd_int, ↓okE_Bd, ↓okE_iL, ↓okE_iT, ↓okE_iS, ↓okE_iA, okC_lst, ↓okE_Comp, okMu_some, ↓okE_Mut, ↓seqK_nx, ↓seqK_rt, ↓seqK_ex, ↓seqK_bk, ↓seqK_ct, ↓okS_Seq, ↓okS_Next, ↓okS_Dead, ↓okS_Brk, ↓okS_Ct, ↓okS_RetN, ↓okS_Raise, ↓okS_Ret, ↓okS_Expr, ↓okS_Set, ↓okS_Par, ↓okS_Aug, ↓okS_Asg, ↓okS_If, okX_some, okZ_int, ↓okS_Sub, okFp_ins, ↓okS_Fld, ↓retK_nx, ↓retK_rt, ↓retK_ex, ↓okF_run, okF_val, okF_exc, ↓lpK_nx, ↓lpK_ct, ↓lpK_bk, ↓lpK_rt, ↓lpK_ex, ↓okS_For, List.getElem?_cons_zero, List.getElem?_cons_succ, List.set_cons_zero, List.set_cons_succ, List.map_cons, List.map_nil, List.length_cons, List.length_nil, List.replicate_succ, List.replicate_zero, List.cons_append, List.nil_append, Option.join_some, Option.getD_some, Option.bind_some, Option.map_some, stD_cons, stD_nil, tgtD_nm, tgtD_tp, tgtsD_nil, tgtsD_cons, argD_full, argD_own, argD_root, argD_cel, argD_nil, putC_full, putC_own, putC_root, putC_cel, putC_nil, outs_t, outs_f, outs_nil, subD_int, addD_int, subI_int, addI_int, mulD_ok, modD_ok, divD_ok, pow1018, pow1015, powD_ok, shlD_ok, shrD_ok, addD_str, mulD_str, b_sum_2, b_len_str, b_len_lst, b_len_tup, k_enumT_str, k_enum_lst, okMu_app, okMu_ext, okL_rng1, okL_rng2, andD_int, xorD_int, negD_int, ltD_int, leD_int, gtD_int, geD_int, eqD_int, eqD_str, eqD_bl, neD_int, neD_str, neD_bl, ixL_0, ixL_1, ixL_2, ixL_3, ixT_0, ixT_1, ixT_2, ixT_3, ixN_0, ixN_1, ixN_2, ixN_3, isD_non, isntD_non, isN, b_int_int, b_int_bl, b_max2_int, b_min2_int, b_abs_int, m_count_str, listD_lst, listD_slst, tupD, strD, decide_eq_true_eq, decide_eq_false_iff_not, decide_true, decide_false, eq_self, and_true, true_and, if_true, if_false, Bool.false_eq_true, ↓reduceIte, Nat.reduceAdd, Nat.reduceSub, Nat.reduceLT, ite_true, ite_false, Bool.not_true, Bool.not_false, Int.toNat_natCast, Int.reduceLT, Int.reduceLE, Int.reduceToNat, Int.reduceMul, Int.reduceAdd, Int.reduceSub, Int.reduceEq, Nat.reduceLeDiff, Nat.reduceMul, List.lookup_cons_self, wipeD])
theorem is_cell_eq {n m x y : Nat} (hn : n ≤ 100) (hm : m ≤ 100) (hx : x < 2 ^ n) (hy : y < 2 ^ m) : fn_is_cell [.tup [.int x, .int y], .int n, .int m] = some (.ok (.bl true) [.tup [.int x, .int y], .int n, .int m]) := eqF (by
  unfold fn_is_cell
  simp (dsimp := false) only [↓okE_ok, ↓okE_ex, ↓okA_ok, ↓okA_ex, ↓okS_some, okD_some, okN_some, okL_some, okG_some, ↓okE_bind, ↓okE_aBind, ↓okS_bind, ↓okS_aBind, ↓okE_lift, ↓okE_V, ↓okE_C, ↓okE_1, ↓okE_2, ↓okA_nil, ↓okA_cons, ↓okE_B, ↓okE_Tup, ↓okE_Lst, tE2_bl, ↓okE_If, ↓okE_And, ↓okE_Or, nE_bl, ↓okE_Not, okB_some, ↓okE_Tru, cE_bl, ↓okE_Chain, ↓okE_Chain3, ↓okE_callR, ↓okE_Call, okI_ins, ↓okE_Prop, ↓okE_Meth, ↓okE_Make, okFs_ins, ↓okE_Fld, okT_str, ↓okE_Txt, ↓okE_Cel, okRS_str, ↓okE_RevS, ↓okE_RevL, ↓okE_RevT, tupRev_tup, rev_two, bitsD_int, b_gcd_int, b_comb_ok, b_tuple_tup, b_tuple_lst, b_str_str, b_str_int, addD_lst, addD_tup, catD_lst, repD_lst, mulD_lst, k_zip_lst, k_rev_lst, b_list_lst, b_list_tup, okSl_nn, okSl_in, okSl_ni, okSl_ii, ↓okE_Sl, ↓okE_No, okBd_int, ↓okE_Bd, ↓okE_iL, ↓okE_iT, ↓okE_iS, ↓okE_iA, okC_lst, ↓okE_Comp, okMu_some, ↓okE_Mut, ↓seqK_nx, ↓seqK_rt, ↓seqK_ex, ↓seqK_bk, ↓seqK_ct, ↓okS_Seq, ↓okS_Next, ↓okS_Dead, ↓okS_Brk, ↓okS_Ct, ↓okS_RetN, ↓okS_Raise, ↓okS_Ret, ↓okS_Expr, ↓okS_Set, ↓okS_Par, ↓okS_Aug, ↓okS_Asg, ↓okS_If, okX_some, okZ_int, ↓okS_Sub, okFp_ins, ↓okS_Fld, ↓retK_nx, ↓retK_rt, ↓retK_ex, ↓okF_run, okF_val, okF_exc, ↓lpK_nx, ↓lpK_ct, ↓lpK_bk, ↓lpK_rt, ↓lpK_ex, ↓okS_For, List.getElem?_cons_zero, List.getElem?_cons_succ, List.set_cons_zero, List.set_cons_succ, List.map_cons, List.map_nil, List.length_cons, List.length_nil, List.replicate_succ, List.replicate_zero, List.cons_append, List.nil_append, Option.join_some, Option.getD_some, Option.bind_some, Option.map_some, stD_cons, stD_nil, tgtD_nm, tgtD_tp, tgtsD_nil, tgtsD_cons, argD_full, argD_own, argD_root, argD_cel, argD_nil, putC_full, putC_own, putC_root, putC_cel, putC_nil, outs_t, outs_f, outs_nil, subD_int, addD_int, subI_int, addI_int, mulD_ok, modD_ok, divD_ok, pow1018, pow1015, powD_ok, shrD_ok, addD_str, mulD_str, b_sum_2, b_len_str, b_len_lst, b_len_tup, k_enumT_str, k_enum_lst, okMu_app, okMu_ext, okL_rng1, okL_rng2, andD_int, xorD_int, negD_int, ltD_int, leD_int, gtD_int, geD_int, eqD_int, eqD_str, eqD_bl, neD_int, neD_str, neD_bl, ixL_0, ixL_1, ixL_2, ixL_3, ixT_0, ixT_1, ixT_2, ixT_3, ixN_0, ixN_1, ixN_2, ixN_3, isD_non, isntD_non, isN, b_int_int, b_int_bl, b_max2_int, b_min2_int, b_abs_int, m_count_str, listD_lst, listD_slst, tupD, strD, decide_eq_true_eq, decide_eq_false_iff_not, decide_true, decide_false, eq_self, and_true, true_and, if_true, if_false, Bool.false_eq_true, ↓reduceIte, Nat.reduceAdd, Nat.reduceSub, Nat.reduceLT, ite_true, ite_false, Bool.not_true, Bool.not_false, Int.toNat_natCast, Int.reduceLT, Int.reduceLE, Int.reduceToNat, Int.reduceMul, Int.reduceAdd, Int.reduceSub, Int.reduceEq, Nat.reduceLeDiff, Nat.reduceMul, List.lookup_cons_self, are2_eq, shl1_nat (show n ≤ 1000 by omega), shl1_nat (show m ≤ 1000 by omega)]
  rw [if_pos (by omega), if_pos (by omega), if_pos (by omega), decide_eq_true (show (y : Int) < ((2 ^ m : Nat) : Int) by omega)])
theorem check_cell_eq {n m x y : Nat} (hn : n ≤ 100) (hm : m ≤ 100) (hx : x < 2 ^ n) (hy : y < 2 ^ m) : fn_check_cell [.tup [.int x, .int y], .int n, .int m] = some (.ok .non [.tup [.int x, .int y], .int n, .int m]) := eqF (by
  unfold fn_check_cell
  simp (dsimp := false) only [↓okE_ok, ↓okE_ex, ↓okA_ok, ↓okA_ex, ↓okS_some, okD_some, okN_some, okL_some, okG_some, ↓okE_bind, ↓okE_aBind, ↓okS_bind, ↓okS_aBind, ↓okE_lift, ↓okE_V, ↓okE_C, ↓okE_1, ↓okE_2, ↓okA_nil, ↓okA_cons, ↓okE_B, ↓okE_Tup, ↓okE_Lst, tE2_bl, ↓okE_If, ↓okE_And, ↓okE_Or, nE_bl, ↓okE_Not, okB_some, ↓okE_Tru, cE_bl, ↓okE_Chain, ↓okE_Chain3, ↓okE_callR, ↓okE_Call, okI_ins, ↓okE_Prop, ↓okE_Meth, ↓okE_Make, okFs_ins, ↓okE_Fld, okT_str, ↓okE_Txt, ↓okE_Cel, okRS_str, ↓okE_RevS, ↓okE_RevL, ↓okE_RevT, tupRev_tup, rev_two, bitsD_int, b_gcd_int, b_comb_ok, b_tuple_tup, b_tuple_lst, b_str_str, b_str_int, addD_lst, addD_tup, catD_lst, repD_lst, mulD_lst, k_zip_lst, k_rev_lst, b_list_lst, b_list_tup, okSl_nn, okSl_in, okSl_ni, okSl_ii, ↓okE_Sl, ↓okE_No, okBd_int, ↓okE_Bd, ↓okE_iL, ↓okE_iT, ↓okE_iS, ↓okE_iA, okC_lst, ↓okE_Comp, okMu_some, ↓okE_Mut, ↓seqK_nx, ↓seqK_rt, ↓seqK_ex, ↓seqK_bk, ↓seqK_ct, ↓okS_Seq, ↓okS_Next, ↓okS_Dead, ↓okS_Brk, ↓okS_Ct, ↓okS_RetN, ↓okS_Raise, ↓okS_Ret, ↓okS_Expr, ↓okS_Set, ↓okS_Par, ↓okS_Aug, ↓okS_Asg, ↓okS_If, okX_some, okZ_int, ↓okS_Sub, okFp_ins, ↓okS_Fld, ↓retK_nx, ↓retK_rt, ↓retK_ex, ↓okF_run, okF_val, okF_exc, ↓lpK_nx, ↓lpK_ct, ↓lpK_bk, ↓lpK_rt, ↓lpK_ex, ↓okS_For, List.getElem?_cons_zero, List.getElem?_cons_succ, List.set_cons_zero, List.set_cons_succ, List.map_cons, List.map_nil, List.length_cons, List.length_nil, List.replicate_succ, List.replicate_zero, List.cons_append, List.nil_append, Option.join_some, Option.getD_some, Option.bind_some, Option.map_some, stD_cons, stD_nil, tgtD_nm, tgtD_tp, tgtsD_nil, tgtsD_cons, argD_full, argD_own, argD_root, argD_cel, argD_nil, putC_full, putC_own, putC_root, putC_cel, putC_nil, outs_t, outs_f, outs_nil, subD_int, addD_int, subI_int, addI_int, mulD_ok, modD_ok, divD_ok, pow1018, pow1015, powD_ok, shlD_ok, shrD_ok, addD_str, mulD_str, b_sum_2, b_len_str, b_len_lst, b_len_tup, k_enumT_str, k_enum_lst, okMu_app, okMu_ext, okL_rng1, okL_rng2, andD_int, xorD_int, negD_int, ltD_int, leD_int, gtD_int, geD_int, eqD_int, eqD_str, eqD_bl, neD_int, neD_str, neD_bl, ixL_0, ixL_1, ixL_2, ixL_3, ixT_0, ixT_1, ixT_2, ixT_3, ixN_0, ixN_1, ixN_2, ixN_3, isD_non, isntD_non, isN, b_int_int, b_int_bl, b_max2_int, b_min2_int, b_abs_int, m_count_str, listD_lst, listD_slst, tupD, strD, decide_eq_true_eq, decide_eq_false_iff_not, decide_true, decide_false, eq_self, and_true, true_and, if_true, if_false, Bool.false_eq_true, ↓reduceIte, Nat.reduceAdd, Nat.reduceSub, Nat.reduceLT, ite_true, ite_false, Bool.not_true, Bool.not_false, Int.toNat_natCast, Int.reduceLT, Int.reduceLE, Int.reduceToNat, Int.reduceMul, Int.reduceAdd, Int.reduceSub, Int.reduceEq, Nat.reduceLeDiff, Nat.reduceMul, List.lookup_cons_self, is_cell_eq hn hm hx hy])
end
section
/-- plain data of moderate size -/
def PlE (k : Nat) (d : D) : Prop := ∃ n, Pl k n d
theorem ple_nat {k i : Nat} (h : i < 2 ^ 1000) : PlE k (.int (i : Nat)) := ⟨0, (pl_nat h).mono (Nat.zero_le _) (Nat.le_refl _)⟩
theorem ple_small {k i : Nat} (h : i ≤ 1000000) : PlE k (.int (i : Nat)) := ple_nat (Nat.lt_of_le_of_lt h (Nat.lt_of_lt_of_le (show 1000000 < 2 ^ 20 by decide) (Nat.pow_le_pow_right (by decide) (by decide))))
theorem ple_nil {k : Nat} : ∀ d ∈ ([] : List D), PlE k d := fun d h => absurd h List.not_mem_nil
theorem ple_cons {k : Nat} {d : D} {ds : List D} (h : PlE k d) (r : ∀ d ∈ ds, PlE k d) : ∀ e ∈ d :: ds, PlE k e := fun e he => by
  rcases List.mem_cons.mp he with rfl | he
  · exact h
  · exact r e he
theorem ple_all {k : Nat} : ∀ ds : List D, (∀ d ∈ ds, PlE k d) → ∃ n, ∀ d ∈ ds, Pl k n d
  | [], _ => ⟨0, fun d h => absurd h List.not_mem_nil⟩
  | d :: ds, h => by
    obtain ⟨n, h1⟩ := ple_all ds fun e he => h e (List.mem_cons_of_mem _ he)
    obtain ⟨m, h2⟩ := h d List.mem_cons_self
    refine ⟨n + m, fun e he => ?_⟩
    rcases List.mem_cons.mp he with rfl | he
    · exact h2.mono (Nat.le_refl _) (Nat.le_add_left _ _)
    · exact (h1 e he).mono (Nat.le_refl _) (Nat.le_add_right _ _)
theorem ple_lst {k : Nat} {ds : List D} (h : ∀ d ∈ ds, PlE k d) : PlE (k + 1) (.lst ds) := by
  obtain ⟨n, h1⟩ := ple_all ds h
  exact ⟨_, pl_lst h1⟩
theorem PlE.eq {k : Nat} {d : D} (h : PlE k d) (hk : k ≤ 8 := by decide) : eqD d d = some (.bl true) := h.elim fun _ z => z.eqD hk
end
section
variable {QF XF : D → List D → Prop}
theorem rng_nat (n : Nat) : rngL 0 n = (List.range n).map fun t : Nat => D.int (t : Int) := by
  unfold rngL
  refine List.map_congr_left fun i _ => ?_
  rw [Int.zero_add]
end
section
variable {QF XF : D → List D → Prop}
end
section
variable {QF XF : D → List D → Prop}
end
section
variable {QF XF : D → List D → Prop}
theorem str0 : ("" : Str) = wS [] := by decide +kernel
theorem strx : ("x" : Str) = wS [true] := by decide +kernel
theorem stry : ("y" : Str) = wS [false] := by decide +kernel
abbrev wD (w : List Bool) : D := .str (wS w)
theorem add_w {a b : List Bool} {P : D → Prop} (h : a.length ≤ 1000) (h2 : b.length ≤ 1000) : OkD (addD (.str (wS a)) (.str (wS b))) P = P (.str (wS (a ++ b))) := by
  rw [addD_str, wS_app]
  exact propext ⟨fun z => z.2, fun z => ⟨by rw [wS_len, wS_len]; exact line_ok (by omega), z⟩⟩
theorem law_words_eq {n m : Nat} (hn : n < 5) (hm : m < 5) : fn_law_words [.int n, .int m] = some (.ok (.lst ((wordsT n m (n + m)).map wD)) [.int n, .int m]) := eqF (by
  have e1 : (n : Int) + m = ((n + m : Nat) : Int) := by omega
  unfold fn_law_words
  simp (dsimp := false) only [↓okE_ok, ↓okE_ex, ↓okA_ok, ↓okA_ex, ↓okS_some, okD_some, okN_some, okL_some, okG_some, ↓okE_bind, ↓okE_aBind, ↓okS_bind, ↓okS_aBind, ↓okE_lift, ↓okE_V, ↓okE_C, ↓okE_1, ↓okE_2, ↓okA_nil, ↓okA_cons, ↓okE_B, ↓okE_Tup, ↓okE_Lst, tE2_bl, ↓okE_If, ↓okE_And, ↓okE_Or, nE_bl, ↓okE_Not, okB_some, ↓okE_Tru, cE_bl, ↓okE_Chain, ↓okE_Chain3, ↓okE_callR, ↓okE_Call, okI_ins, ↓okE_Prop, ↓okE_Meth, ↓okE_Make, okFs_ins, ↓okE_Fld, okT_str, ↓okE_Txt, ↓okE_Cel, okRS_str, ↓okE_RevS, ↓okE_RevL, ↓okE_RevT, tupRev_tup, rev_two, bitsD_int, b_gcd_int, b_comb_ok, b_tuple_tup, b_tuple_lst, b_str_str, b_str_int, addD_lst, addD_tup, catD_lst, repD_lst, mulD_lst, k_zip_lst, k_rev_lst, b_list_lst, b_list_tup, okSl_nn, okSl_in, okSl_ni, okSl_ii, ↓okE_Sl, ↓okE_No, okBd_int, ↓okE_Bd, ↓okE_iL, ↓okE_iT, ↓okE_iS, ↓okE_iA, okC_lst, ↓okE_Comp, okMu_some, ↓okE_Mut, ↓seqK_nx, ↓seqK_rt, ↓seqK_ex, ↓seqK_bk, ↓seqK_ct, ↓okS_Seq, ↓okS_Next, ↓okS_Dead, ↓okS_Brk, ↓okS_Ct, ↓okS_RetN, ↓okS_Raise, ↓okS_Ret, ↓okS_Expr, ↓okS_Set, ↓okS_Par, ↓okS_Aug, ↓okS_Asg, ↓okS_If, okX_some, okZ_int, ↓okS_Sub, okFp_ins, ↓okS_Fld, ↓retK_nx, ↓retK_rt, ↓retK_ex, ↓okF_run, okF_val, okF_exc, ↓lpK_nx, ↓lpK_ct, ↓lpK_bk, ↓lpK_rt, ↓lpK_ex, ↓okS_For, List.getElem?_cons_zero, List.getElem?_cons_succ, List.set_cons_zero, List.set_cons_succ, List.map_cons, List.map_nil, List.length_cons, List.length_nil, List.replicate_succ, List.replicate_zero, List.cons_append, List.nil_append, Option.join_some, Option.getD_some, Option.bind_some, Option.map_some, stD_cons, stD_nil, tgtD_nm, tgtD_tp, tgtsD_nil, tgtsD_cons, argD_full, argD_own, argD_root, argD_cel, argD_nil, putC_full, putC_own, putC_root, putC_cel, putC_nil, outs_t, outs_f, outs_nil, subD_int, addD_int, subI_int, addI_int, mulD_ok, modD_ok, divD_ok, pow1018, pow1015, powD_ok, shlD_ok, shrD_ok, addD_str, mulD_str, b_sum_2, b_len_str, b_len_lst, b_len_tup, k_enumT_str, k_enum_lst, okMu_app, okMu_ext, okL_rng1, okL_rng2, andD_int, xorD_int, negD_int, ltD_int, leD_int, gtD_int, geD_int, eqD_int, eqD_str, eqD_bl, neD_int, neD_str, neD_bl, ixL_0, ixL_1, ixL_2, ixL_3, ixT_0, ixT_1, ixT_2, ixT_3, ixN_0, ixN_1, ixN_2, ixN_3, isD_non, isntD_non, isN, b_int_int, b_int_bl, b_max2_int, b_min2_int, b_abs_int, m_count_str, listD_lst, listD_slst, tupD, strD, decide_eq_true_eq, decide_eq_false_iff_not, decide_true, decide_false, eq_self, and_true, true_and, if_true, if_false, Bool.false_eq_true, ↓reduceIte, Nat.reduceAdd, Nat.reduceSub, Nat.reduceLT, ite_true, ite_false, Bool.not_true, Bool.not_false, Int.toNat_natCast, Int.reduceLT, Int.reduceLE, Int.reduceToNat, Int.reduceMul, Int.reduceAdd, Int.reduceSub, Int.reduceEq, Nat.reduceLeDiff, Nat.reduceMul, List.lookup_cons_self, e1]
  refine ⟨by unfold rngC; omega, ?_⟩
  rw [rng_nat]
  refine loop_rng (fun t ρ => ∃ (y3 y4 y5 : Option D), ρ = [some (.int n), some (.int m), some (.lst ((wordsT n m t).map wD)), y3, y4, y5]) ?_ ?_ ⟨none, none, none, by rw [str0]; rfl⟩
  · rintro t ρ ht ⟨y3, y4, y5, rfl⟩
    obtain ⟨l1, l2⟩ := words_len n hn m hm t ht
    simp (dsimp := false) only [↓okE_ok, ↓okE_ex, ↓okA_ok, ↓okA_ex, ↓okS_some, okD_some, okN_some, okL_some, okG_some, ↓okE_bind, ↓okE_aBind, ↓okS_bind, ↓okS_aBind, ↓okE_lift, ↓okE_V, ↓okE_C, ↓okE_1, ↓okE_2, ↓okA_nil, ↓okA_cons, ↓okE_B, ↓okE_Tup, ↓okE_Lst, tE2_bl, ↓okE_If, ↓okE_And, ↓okE_Or, nE_bl, ↓okE_Not, okB_some, ↓okE_Tru, cE_bl, ↓okE_Chain, ↓okE_Chain3, ↓okE_callR, ↓okE_Call, okI_ins, ↓okE_Prop, ↓okE_Meth, ↓okE_Make, okFs_ins, ↓okE_Fld, okT_str, ↓okE_Txt, ↓okE_Cel, okRS_str, ↓okE_RevS, ↓okE_RevL, ↓okE_RevT, tupRev_tup, rev_two, bitsD_int, b_gcd_int, b_comb_ok, b_tuple_tup, b_tuple_lst, b_str_str, b_str_int, addD_lst, addD_tup, catD_lst, repD_lst, mulD_lst, k_zip_lst, k_rev_lst, b_list_lst, b_list_tup, okSl_nn, okSl_in, okSl_ni, okSl_ii, ↓okE_Sl, ↓okE_No, okBd_int, ↓okE_Bd, ↓okE_iL, ↓okE_iT, ↓okE_iS, ↓okE_iA, okC_lst, ↓okE_Comp, okMu_some, ↓okE_Mut, ↓seqK_nx, ↓seqK_rt, ↓seqK_ex, ↓seqK_bk, ↓seqK_ct, ↓okS_Seq, ↓okS_Next, ↓okS_Dead, ↓okS_Brk, ↓okS_Ct, ↓okS_RetN, ↓okS_Raise, ↓okS_Ret, ↓okS_Expr, ↓okS_Set, ↓okS_Par, ↓okS_Aug, ↓okS_Asg, ↓okS_If, okX_some, okZ_int, ↓okS_Sub, okFp_ins, ↓okS_Fld, ↓retK_nx, ↓retK_rt, ↓retK_ex, ↓okF_run, okF_val, okF_exc, ↓lpK_nx, ↓lpK_ct, ↓lpK_bk, ↓lpK_rt, ↓lpK_ex, ↓okS_For, List.getElem?_cons_zero, List.getElem?_cons_succ, List.set_cons_zero, List.set_cons_succ, List.map_cons, List.map_nil, List.length_cons, List.length_nil, List.replicate_succ, List.replicate_zero, List.cons_append, List.nil_append, Option.join_some, Option.getD_some, Option.bind_some, Option.map_some, stD_cons, stD_nil, tgtD_nm, tgtD_tp, tgtsD_nil, tgtsD_cons, argD_full, argD_own, argD_root, argD_cel, argD_nil, putC_full, putC_own, putC_root, putC_cel, putC_nil, outs_t, outs_f, outs_nil, subD_int, addD_int, subI_int, addI_int, mulD_ok, modD_ok, divD_ok, pow1018, pow1015, powD_ok, shlD_ok, shrD_ok, addD_str, mulD_str, b_sum_2, b_len_str, b_len_lst, b_len_tup, k_enumT_str, k_enum_lst, okMu_app, okMu_ext, okL_rng1, okL_rng2, andD_int, xorD_int, negD_int, ltD_int, leD_int, gtD_int, geD_int, eqD_int, eqD_str, eqD_bl, neD_int, neD_str, neD_bl, ixL_0, ixL_1, ixL_2, ixL_3, ixT_0, ixT_1, ixT_2, ixT_3, ixN_0, ixN_1, ixN_2, ixN_3, isD_non, isntD_non, isN, b_int_int, b_int_bl, b_max2_int, b_min2_int, b_abs_int, m_count_str, listD_lst, listD_slst, tupD, strD, decide_eq_true_eq, decide_eq_false_iff_not, decide_true, decide_false, eq_self, and_true, true_and, if_true, if_false, Bool.false_eq_true, ↓reduceIte, Nat.reduceAdd, Nat.reduceSub, Nat.reduceLT, ite_true, ite_false, Bool.not_true, Bool.not_false, Int.toNat_natCast, Int.reduceLT, Int.reduceLE, Int.reduceToNat, Int.reduceMul, Int.reduceAdd, Int.reduceSub, Int.reduceEq, Nat.reduceLeDiff, Nat.reduceMul, List.lookup_cons_self]
    rw [compF_typedF (enc := wD) (gD := fun w : List Bool => wD (w ++ [true])) (p := fun w : List Bool => decide (nx w < n)) (wordsT n m t) (line_ok (by omega)) fun w hw => ⟨_, rfl, by
      simp (dsimp := false) only [↓okE_ok, ↓okE_ex, ↓okA_ok, ↓okA_ex, ↓okS_some, okD_some, okN_some, okL_some, okG_some, ↓okE_bind, ↓okE_aBind, ↓okS_bind, ↓okS_aBind, ↓okE_lift, ↓okE_V, ↓okE_C, ↓okE_1, ↓okE_2, ↓okA_nil, ↓okA_cons, ↓okE_B, ↓okE_Tup, ↓okE_Lst, tE2_bl, ↓okE_If, ↓okE_And, ↓okE_Or, nE_bl, ↓okE_Not, okB_some, ↓okE_Tru, cE_bl, ↓okE_Chain, ↓okE_Chain3, ↓okE_callR, ↓okE_Call, okI_ins, ↓okE_Prop, ↓okE_Meth, ↓okE_Make, okFs_ins, ↓okE_Fld, okT_str, ↓okE_Txt, ↓okE_Cel, okRS_str, ↓okE_RevS, ↓okE_RevL, ↓okE_RevT, tupRev_tup, rev_two, bitsD_int, b_gcd_int, b_comb_ok, b_tuple_tup, b_tuple_lst, b_str_str, b_str_int, addD_lst, addD_tup, catD_lst, repD_lst, mulD_lst, k_zip_lst, k_rev_lst, b_list_lst, b_list_tup, okSl_nn, okSl_in, okSl_ni, okSl_ii, ↓okE_Sl, ↓okE_No, okBd_int, ↓okE_Bd, ↓okE_iL, ↓okE_iT, ↓okE_iS, ↓okE_iA, okC_lst, ↓okE_Comp, okMu_some, ↓okE_Mut, ↓seqK_nx, ↓seqK_rt, ↓seqK_ex, ↓seqK_bk, ↓seqK_ct, ↓okS_Seq, ↓okS_Next, ↓okS_Dead, ↓okS_Brk, ↓okS_Ct, ↓okS_RetN, ↓okS_Raise, ↓okS_Ret, ↓okS_Expr, ↓okS_Set, ↓okS_Par, ↓okS_Aug, ↓okS_Asg, ↓okS_If, okX_some, okZ_int, ↓okS_Sub, okFp_ins, ↓okS_Fld, ↓retK_nx, ↓retK_rt, ↓retK_ex, ↓okF_run, okF_val, okF_exc, ↓lpK_nx, ↓lpK_ct, ↓lpK_bk, ↓lpK_rt, ↓lpK_ex, ↓okS_For, List.getElem?_cons_zero, List.getElem?_cons_succ, List.set_cons_zero, List.set_cons_succ, List.map_cons, List.map_nil, List.length_cons, List.length_nil, List.replicate_succ, List.replicate_zero, List.cons_append, List.nil_append, Option.join_some, Option.getD_some, Option.bind_some, Option.map_some, stD_cons, stD_nil, tgtD_nm, tgtD_tp, tgtsD_nil, tgtsD_cons, argD_full, argD_own, argD_root, argD_cel, argD_nil, putC_full, putC_own, putC_root, putC_cel, putC_nil, outs_t, outs_f, outs_nil, subD_int, addD_int, subI_int, addI_int, mulD_ok, modD_ok, divD_ok, pow1018, pow1015, powD_ok, shlD_ok, shrD_ok, addD_str, mulD_str, b_sum_2, b_len_str, b_len_lst, b_len_tup, k_enumT_str, k_enum_lst, okMu_app, okMu_ext, okL_rng1, okL_rng2, andD_int, xorD_int, negD_int, ltD_int, leD_int, gtD_int, geD_int, eqD_int, eqD_str, eqD_bl, neD_int, neD_str, neD_bl, ixL_0, ixL_1, ixL_2, ixL_3, ixT_0, ixT_1, ixT_2, ixT_3, ixN_0, ixN_1, ixN_2, ixN_3, isD_non, isntD_non, isN, b_int_int, b_int_bl, b_max2_int, b_min2_int, b_abs_int, m_count_str, listD_lst, listD_slst, tupD, strD, decide_eq_true_eq, decide_eq_false_iff_not, decide_true, decide_false, eq_self, and_true, true_and, if_true, if_false, Bool.false_eq_true, ↓reduceIte, Nat.reduceAdd, Nat.reduceSub, Nat.reduceLT, ite_true, ite_false, Bool.not_true, Bool.not_false, Int.toNat_natCast, Int.reduceLT, Int.reduceLE, Int.reduceToNat, Int.reduceMul, Int.reduceAdd, Int.reduceSub, Int.reduceEq, Nat.reduceLeDiff, Nat.reduceMul, List.lookup_cons_self, wipeD, count_x, Int.ofNat_lt], fun _ => by
      rw [strx]
      simp (dsimp := false) only [↓okE_ok, ↓okE_ex, ↓okA_ok, ↓okA_ex, ↓okS_some, okD_some, okN_some, okL_some, okG_some, ↓okE_bind, ↓okE_aBind, ↓okS_bind, ↓okS_aBind, ↓okE_lift, ↓okE_V, ↓okE_C, ↓okE_1, ↓okE_2, ↓okA_nil, ↓okA_cons, ↓okE_B, ↓okE_Tup, ↓okE_Lst, tE2_bl, ↓okE_If, ↓okE_And, ↓okE_Or, nE_bl, ↓okE_Not, okB_some, ↓okE_Tru, cE_bl, ↓okE_Chain, ↓okE_Chain3, ↓okE_callR, ↓okE_Call, okI_ins, ↓okE_Prop, ↓okE_Meth, ↓okE_Make, okFs_ins, ↓okE_Fld, okT_str, ↓okE_Txt, ↓okE_Cel, okRS_str, ↓okE_RevS, ↓okE_RevL, ↓okE_RevT, tupRev_tup, rev_two, bitsD_int, b_gcd_int, b_comb_ok, b_tuple_tup, b_tuple_lst, b_str_str, b_str_int, addD_lst, addD_tup, catD_lst, repD_lst, mulD_lst, k_zip_lst, k_rev_lst, b_list_lst, b_list_tup, okSl_nn, okSl_in, okSl_ni, okSl_ii, ↓okE_Sl, ↓okE_No, okBd_int, ↓okE_Bd, ↓okE_iL, ↓okE_iT, ↓okE_iS, ↓okE_iA, okC_lst, ↓okE_Comp, okMu_some, ↓okE_Mut, ↓seqK_nx, ↓seqK_rt, ↓seqK_ex, ↓seqK_bk, ↓seqK_ct, ↓okS_Seq, ↓okS_Next, ↓okS_Dead, ↓okS_Brk, ↓okS_Ct, ↓okS_RetN, ↓okS_Raise, ↓okS_Ret, ↓okS_Expr, ↓okS_Set, ↓okS_Par, ↓okS_Aug, ↓okS_Asg, ↓okS_If, okX_some, okZ_int, ↓okS_Sub, okFp_ins, ↓okS_Fld, ↓retK_nx, ↓retK_rt, ↓retK_ex, ↓okF_run, okF_val, okF_exc, ↓lpK_nx, ↓lpK_ct, ↓lpK_bk, ↓lpK_rt, ↓lpK_ex, ↓okS_For, List.getElem?_cons_zero, List.getElem?_cons_succ, List.set_cons_zero, List.set_cons_succ, List.map_cons, List.map_nil, List.length_cons, List.length_nil, List.replicate_succ, List.replicate_zero, List.cons_append, List.nil_append, Option.join_some, Option.getD_some, Option.bind_some, Option.map_some, stD_cons, stD_nil, tgtD_nm, tgtD_tp, tgtsD_nil, tgtsD_cons, argD_full, argD_own, argD_root, argD_cel, argD_nil, putC_full, putC_own, putC_root, putC_cel, putC_nil, outs_t, outs_f, outs_nil, subD_int, addD_int, subI_int, addI_int, mulD_ok, modD_ok, divD_ok, pow1018, pow1015, powD_ok, shlD_ok, shrD_ok, addD_str, mulD_str, b_sum_2, b_len_str, b_len_lst, b_len_tup, k_enumT_str, k_enum_lst, okMu_app, okMu_ext, okL_rng1, okL_rng2, andD_int, xorD_int, negD_int, ltD_int, leD_int, gtD_int, geD_int, eqD_int, eqD_str, eqD_bl, neD_int, neD_str, neD_bl, ixL_0, ixL_1, ixL_2, ixL_3, ixT_0, ixT_1, ixT_2, ixT_3, ixN_0, ixN_1, ixN_2, ixN_3, isD_non, isntD_non, isN, b_int_int, b_int_bl, b_max2_int, b_min2_int, b_abs_int, m_count_str, listD_lst, listD_slst, tupD, strD, decide_eq_true_eq, decide_eq_false_iff_not, decide_true, decide_false, eq_self, and_true, true_and, if_true, if_false, Bool.false_eq_true, ↓reduceIte, Nat.reduceAdd, Nat.reduceSub, Nat.reduceLT, ite_true, ite_false, Bool.not_true, Bool.not_false, Int.toNat_natCast, Int.reduceLT, Int.reduceLE, Int.reduceToNat, Int.reduceMul, Int.reduceAdd, Int.reduceSub, Int.reduceEq, Nat.reduceLeDiff, Nat.reduceMul, List.lookup_cons_self, wipeD, add_w (show w.length ≤ 1000 by have := l2 w hw; omega) (show [true].length ≤ 1000 by decide), -addD_str], rfl⟩]
    simp (dsimp := false) only [↓okE_ok, ↓okE_ex, ↓okA_ok, ↓okA_ex, ↓okS_some, okD_some, okN_some, okL_some, okG_some, ↓okE_bind, ↓okE_aBind, ↓okS_bind, ↓okS_aBind, ↓okE_lift, ↓okE_V, ↓okE_C, ↓okE_1, ↓okE_2, ↓okA_nil, ↓okA_cons, ↓okE_B, ↓okE_Tup, ↓okE_Lst, tE2_bl, ↓okE_If, ↓okE_And, ↓okE_Or, nE_bl, ↓okE_Not, okB_some, ↓okE_Tru, cE_bl, ↓okE_Chain, ↓okE_Chain3, ↓okE_callR, ↓okE_Call, okI_ins, ↓okE_Prop, ↓okE_Meth, ↓okE_Make, okFs_ins, ↓okE_Fld, okT_str, ↓okE_Txt, ↓okE_Cel, okRS_str, ↓okE_RevS, ↓okE_RevL, ↓okE_RevT, tupRev_tup, rev_two, bitsD_int, b_gcd_int, b_comb_ok, b_tuple_tup, b_tuple_lst, b_str_str, b_str_int, addD_lst, addD_tup, catD_lst, repD_lst, mulD_lst, k_zip_lst, k_rev_lst, b_list_lst, b_list_tup, okSl_nn, okSl_in, okSl_ni, okSl_ii, ↓okE_Sl, ↓okE_No, okBd_int, ↓okE_Bd, ↓okE_iL, ↓okE_iT, ↓okE_iS, ↓okE_iA, okC_lst, ↓okE_Comp, okMu_some, ↓okE_Mut, ↓seqK_nx, ↓seqK_rt, ↓seqK_ex, ↓seqK_bk, ↓seqK_ct, ↓okS_Seq, ↓okS_Next, ↓okS_Dead, ↓okS_Brk, ↓okS_Ct, ↓okS_RetN, ↓okS_Raise, ↓okS_Ret, ↓okS_Expr, ↓okS_Set, ↓okS_Par, ↓okS_Aug, ↓okS_Asg, ↓okS_If, okX_some, okZ_int, ↓okS_Sub, okFp_ins, ↓okS_Fld, ↓retK_nx, ↓retK_rt, ↓retK_ex, ↓okF_run, okF_val, okF_exc, ↓lpK_nx, ↓lpK_ct, ↓lpK_bk, ↓lpK_rt, ↓lpK_ex, ↓okS_For, List.getElem?_cons_zero, List.getElem?_cons_succ, List.set_cons_zero, List.set_cons_succ, List.map_cons, List.map_nil, List.length_cons, List.length_nil, List.replicate_succ, List.replicate_zero, List.cons_append, List.nil_append, Option.join_some, Option.getD_some, Option.bind_some, Option.map_some, stD_cons, stD_nil, tgtD_nm, tgtD_tp, tgtsD_nil, tgtsD_cons, argD_full, argD_own, argD_root, argD_cel, argD_nil, putC_full, putC_own, putC_root, putC_cel, putC_nil, outs_t, outs_f, outs_nil, subD_int, addD_int, subI_int, addI_int, mulD_ok, modD_ok, divD_ok, pow1018, pow1015, powD_ok, shlD_ok, shrD_ok, addD_str, mulD_str, b_sum_2, b_len_str, b_len_lst, b_len_tup, k_enumT_str, k_enum_lst, okMu_app, okMu_ext, okL_rng1, okL_rng2, andD_int, xorD_int, negD_int, ltD_int, leD_int, gtD_int, geD_int, eqD_int, eqD_str, eqD_bl, neD_int, neD_str, neD_bl, ixL_0, ixL_1, ixL_2, ixL_3, ixT_0, ixT_1, ixT_2, ixT_3, ixN_0, ixN_1, ixN_2, ixN_3, isD_non, isntD_non, isN, b_int_int, b_int_bl, b_max2_int, b_min2_int, b_abs_int, m_count_str, listD_lst, listD_slst, tupD, strD, decide_eq_true_eq, decide_eq_false_iff_not, decide_true, decide_false, eq_self, and_true, true_and, if_true, if_false, Bool.false_eq_true, ↓reduceIte, Nat.reduceAdd, Nat.reduceSub, Nat.reduceLT, ite_true, ite_false, Bool.not_true, Bool.not_false, Int.toNat_natCast, Int.reduceLT, Int.reduceLE, Int.reduceToNat, Int.reduceMul, Int.reduceAdd, Int.reduceSub, Int.reduceEq, Nat.reduceLeDiff, Nat.reduceMul, List.lookup_cons_self]
    rw [compF_typedF (enc := wD) (gD := fun w : List Bool => wD (w ++ [false])) (p := fun w : List Bool => decide (ny w < m)) (wordsT n m t) (line_ok (by omega)) fun w hw => ⟨_, rfl, by
      simp (dsimp := false) only [↓okE_ok, ↓okE_ex, ↓okA_ok, ↓okA_ex, ↓okS_some, okD_some, okN_some, okL_some, okG_some, ↓okE_bind, ↓okE_aBind, ↓okS_bind, ↓okS_aBind, ↓okE_lift, ↓okE_V, ↓okE_C, ↓okE_1, ↓okE_2, ↓okA_nil, ↓okA_cons, ↓okE_B, ↓okE_Tup, ↓okE_Lst, tE2_bl, ↓okE_If, ↓okE_And, ↓okE_Or, nE_bl, ↓okE_Not, okB_some, ↓okE_Tru, cE_bl, ↓okE_Chain, ↓okE_Chain3, ↓okE_callR, ↓okE_Call, okI_ins, ↓okE_Prop, ↓okE_Meth, ↓okE_Make, okFs_ins, ↓okE_Fld, okT_str, ↓okE_Txt, ↓okE_Cel, okRS_str, ↓okE_RevS, ↓okE_RevL, ↓okE_RevT, tupRev_tup, rev_two, bitsD_int, b_gcd_int, b_comb_ok, b_tuple_tup, b_tuple_lst, b_str_str, b_str_int, addD_lst, addD_tup, catD_lst, repD_lst, mulD_lst, k_zip_lst, k_rev_lst, b_list_lst, b_list_tup, okSl_nn, okSl_in, okSl_ni, okSl_ii, ↓okE_Sl, ↓okE_No, okBd_int, ↓okE_Bd, ↓okE_iL, ↓okE_iT, ↓okE_iS, ↓okE_iA, okC_lst, ↓okE_Comp, okMu_some, ↓okE_Mut, ↓seqK_nx, ↓seqK_rt, ↓seqK_ex, ↓seqK_bk, ↓seqK_ct, ↓okS_Seq, ↓okS_Next, ↓okS_Dead, ↓okS_Brk, ↓okS_Ct, ↓okS_RetN, ↓okS_Raise, ↓okS_Ret, ↓okS_Expr, ↓okS_Set, ↓okS_Par, ↓okS_Aug, ↓okS_Asg, ↓okS_If, okX_some, okZ_int, ↓okS_Sub, okFp_ins, ↓okS_Fld, ↓retK_nx, ↓retK_rt, ↓retK_ex, ↓okF_run, okF_val, okF_exc, ↓lpK_nx, ↓lpK_ct, ↓lpK_bk, ↓lpK_rt, ↓lpK_ex, ↓okS_For, List.getElem?_cons_zero, List.getElem?_cons_succ, List.set_cons_zero, List.set_cons_succ, List.map_cons, List.map_nil, List.length_cons, List.length_nil, List.replicate_succ, List.replicate_zero, List.cons_append, List.nil_append, Option.join_some, Option.getD_some, Option.bind_some, Option.map_some, stD_cons, stD_nil, tgtD_nm, tgtD_tp, tgtsD_nil, tgtsD_cons, argD_full, argD_own, argD_root, argD_cel, argD_nil, putC_full, putC_own, putC_root, putC_cel, putC_nil, outs_t, outs_f, outs_nil, subD_int, addD_int, subI_int, addI_int, mulD_ok, modD_ok, divD_ok, pow1018, pow1015, powD_ok, shlD_ok, shrD_ok, addD_str, mulD_str, b_sum_2, b_len_str, b_len_lst, b_len_tup, k_enumT_str, k_enum_lst, okMu_app, okMu_ext, okL_rng1, okL_rng2, andD_int, xorD_int, negD_int, ltD_int, leD_int, gtD_int, geD_int, eqD_int, eqD_str, eqD_bl, neD_int, neD_str, neD_bl, ixL_0, ixL_1, ixL_2, ixL_3, ixT_0, ixT_1, ixT_2, ixT_3, ixN_0, ixN_1, ixN_2, ixN_3, isD_non, isntD_non, isN, b_int_int, b_int_bl, b_max2_int, b_min2_int, b_abs_int, m_count_str, listD_lst, listD_slst, tupD, strD, decide_eq_true_eq, decide_eq_false_iff_not, decide_true, decide_false, eq_self, and_true, true_and, if_true, if_false, Bool.false_eq_true, ↓reduceIte, Nat.reduceAdd, Nat.reduceSub, Nat.reduceLT, ite_true, ite_false, Bool.not_true, Bool.not_false, Int.toNat_natCast, Int.reduceLT, Int.reduceLE, Int.reduceToNat, Int.reduceMul, Int.reduceAdd, Int.reduceSub, Int.reduceEq, Nat.reduceLeDiff, Nat.reduceMul, List.lookup_cons_self, wipeD, count_y, Int.ofNat_lt], fun _ => by
      rw [stry]
      simp (dsimp := false) only [↓okE_ok, ↓okE_ex, ↓okA_ok, ↓okA_ex, ↓okS_some, okD_some, okN_some, okL_some, okG_some, ↓okE_bind, ↓okE_aBind, ↓okS_bind, ↓okS_aBind, ↓okE_lift, ↓okE_V, ↓okE_C, ↓okE_1, ↓okE_2, ↓okA_nil, ↓okA_cons, ↓okE_B, ↓okE_Tup, ↓okE_Lst, tE2_bl, ↓okE_If, ↓okE_And, ↓okE_Or, nE_bl, ↓okE_Not, okB_some, ↓okE_Tru, cE_bl, ↓okE_Chain, ↓okE_Chain3, ↓okE_callR, ↓okE_Call, okI_ins, ↓okE_Prop, ↓okE_Meth, ↓okE_Make, okFs_ins, ↓okE_Fld, okT_str, ↓okE_Txt, ↓okE_Cel, okRS_str, ↓okE_RevS, ↓okE_RevL, ↓okE_RevT, tupRev_tup, rev_two, bitsD_int, b_gcd_int, b_comb_ok, b_tuple_tup, b_tuple_lst, b_str_str, b_str_int, addD_lst, addD_tup, catD_lst, repD_lst, mulD_lst, k_zip_lst, k_rev_lst, b_list_lst, b_list_tup, okSl_nn, okSl_in, okSl_ni, okSl_ii, ↓okE_Sl, ↓okE_No, okBd_int, ↓okE_Bd, ↓okE_iL, ↓okE_iT, ↓okE_iS, ↓okE_iA, okC_lst, ↓okE_Comp, okMu_some, ↓okE_Mut, ↓seqK_nx, ↓seqK_rt, ↓seqK_ex, ↓seqK_bk, ↓seqK_ct, ↓okS_Seq, ↓okS_Next, ↓okS_Dead, ↓okS_Brk, ↓okS_Ct, ↓okS_RetN, ↓okS_Raise, ↓okS_Ret, ↓okS_Expr, ↓okS_Set, ↓okS_Par, ↓okS_Aug, ↓okS_Asg, ↓okS_If, okX_some, okZ_int, ↓okS_Sub, okFp_ins, ↓okS_Fld, ↓retK_nx, ↓retK_rt, ↓retK_ex, ↓okF_run, okF_val, okF_exc, ↓lpK_nx, ↓lpK_ct, ↓lpK_bk, ↓lpK_rt, ↓lpK_ex, ↓okS_For, List.getElem?_cons_zero, List.getElem?_cons_succ, List.set_cons_zero, List.set_cons_succ, List.map_cons, List.map_nil, List.length_cons, List.length_nil, List.replicate_succ, List.replicate_zero, List.cons_append, List.nil_append, Option.join_some, Option.getD_some, Option.bind_some, Option.map_some, stD_cons, stD_nil, tgtD_nm, tgtD_tp, tgtsD_nil, tgtsD_cons, argD_full, argD_own, argD_root, argD_cel, argD_nil, putC_full, putC_own, putC_root, putC_cel, putC_nil, outs_t, outs_f, outs_nil, subD_int, addD_int, subI_int, addI_int, mulD_ok, modD_ok, divD_ok, pow1018, pow1015, powD_ok, shlD_ok, shrD_ok, addD_str, mulD_str, b_sum_2, b_len_str, b_len_lst, b_len_tup, k_enumT_str, k_enum_lst, okMu_app, okMu_ext, okL_rng1, okL_rng2, andD_int, xorD_int, negD_int, ltD_int, leD_int, gtD_int, geD_int, eqD_int, eqD_str, eqD_bl, neD_int, neD_str, neD_bl, ixL_0, ixL_1, ixL_2, ixL_3, ixT_0, ixT_1, ixT_2, ixT_3, ixN_0, ixN_1, ixN_2, ixN_3, isD_non, isntD_non, isN, b_int_int, b_int_bl, b_max2_int, b_min2_int, b_abs_int, m_count_str, listD_lst, listD_slst, tupD, strD, decide_eq_true_eq, decide_eq_false_iff_not, decide_true, decide_false, eq_self, and_true, true_and, if_true, if_false, Bool.false_eq_true, ↓reduceIte, Nat.reduceAdd, Nat.reduceSub, Nat.reduceLT, ite_true, ite_false, Bool.not_true, Bool.not_false, Int.toNat_natCast, Int.reduceLT, Int.reduceLE, Int.reduceToNat, Int.reduceMul, Int.reduceAdd, Int.reduceSub, Int.reduceEq, Nat.reduceLeDiff, Nat.reduceMul, List.lookup_cons_self, wipeD, add_w (show w.length ≤ 1000 by have := l2 w hw; omega) (show [false].length ≤ 1000 by decide), -addD_str], rfl⟩]
    simp (dsimp := false) only [↓okE_ok, ↓okE_ex, ↓okA_ok, ↓okA_ex, ↓okS_some, okD_some, okN_some, okL_some, okG_some, ↓okE_bind, ↓okE_aBind, ↓okS_bind, ↓okS_aBind, ↓okE_lift, ↓okE_V, ↓okE_C, ↓okE_1, ↓okE_2, ↓okA_nil, ↓okA_cons, ↓okE_B, ↓okE_Tup, ↓okE_Lst, tE2_bl, ↓okE_If, ↓okE_And, ↓okE_Or, nE_bl, ↓okE_Not, okB_some, ↓okE_Tru, cE_bl, ↓okE_Chain, ↓okE_Chain3, ↓okE_callR, ↓okE_Call, okI_ins, ↓okE_Prop, ↓okE_Meth, ↓okE_Make, okFs_ins, ↓okE_Fld, okT_str, ↓okE_Txt, ↓okE_Cel, okRS_str, ↓okE_RevS, ↓okE_RevL, ↓okE_RevT, tupRev_tup, rev_two, bitsD_int, b_gcd_int, b_comb_ok, b_tuple_tup, b_tuple_lst, b_str_str, b_str_int, addD_lst, addD_tup, catD_lst, repD_lst, mulD_lst, k_zip_lst, k_rev_lst, b_list_lst, b_list_tup, okSl_nn, okSl_in, okSl_ni, okSl_ii, ↓okE_Sl, ↓okE_No, okBd_int, ↓okE_Bd, ↓okE_iL, ↓okE_iT, ↓okE_iS, ↓okE_iA, okC_lst, ↓okE_Comp, okMu_some, ↓okE_Mut, ↓seqK_nx, ↓seqK_rt, ↓seqK_ex, ↓seqK_bk, ↓seqK_ct, ↓okS_Seq, ↓okS_Next, ↓okS_Dead, ↓okS_Brk, ↓okS_Ct, ↓okS_RetN, ↓okS_Raise, ↓okS_Ret, ↓okS_Expr, ↓okS_Set, ↓okS_Par, ↓okS_Aug, ↓okS_Asg, ↓okS_If, okX_some, okZ_int, ↓okS_Sub, okFp_ins, ↓okS_Fld, ↓retK_nx, ↓retK_rt, ↓retK_ex, ↓okF_run, okF_val, okF_exc, ↓lpK_nx, ↓lpK_ct, ↓lpK_bk, ↓lpK_rt, ↓lpK_ex, ↓okS_For, List.getElem?_cons_zero, List.getElem?_cons_succ, List.set_cons_zero, List.set_cons_succ, List.map_cons, List.map_nil, List.length_cons, List.length_nil, List.replicate_succ, List.replicate_zero, List.cons_append, List.nil_append, Option.join_some, Option.getD_some, Option.bind_some, Option.map_some, stD_cons, stD_nil, tgtD_nm, tgtD_tp, tgtsD_nil, tgtsD_cons, argD_full, argD_own, argD_root, argD_cel, argD_nil, putC_full, putC_own, putC_root, putC_cel, putC_nil, outs_t, outs_f, outs_nil, subD_int, addD_int, subI_int, addI_int, mulD_ok, modD_ok, divD_ok, pow1018, pow1015, powD_ok, shlD_ok, shrD_ok, addD_str, mulD_str, b_sum_2, b_len_str, b_len_lst, b_len_tup, k_enumT_str, k_enum_lst, okMu_app, okMu_ext, okL_rng1, okL_rng2, andD_int, xorD_int, negD_int, ltD_int, leD_int, gtD_int, geD_int, eqD_int, eqD_str, eqD_bl, neD_int, neD_str, neD_bl, ixL_0, ixL_1, ixL_2, ixL_3, ixT_0, ixT_1, ixT_2, ixT_3, ixN_0, ixN_1, ixN_2, ixN_3, isD_non, isntD_non, isN, b_int_int, b_int_bl, b_max2_int, b_min2_int, b_abs_int, m_count_str, listD_lst, listD_slst, tupD, strD, decide_eq_true_eq, decide_eq_false_iff_not, decide_true, decide_false, eq_self, and_true, true_and, if_true, if_false, Bool.false_eq_true, ↓reduceIte, Nat.reduceAdd, Nat.reduceSub, Nat.reduceLT, ite_true, ite_false, Bool.not_true, Bool.not_false, Int.toNat_natCast, Int.reduceLT, Int.reduceLE, Int.reduceToNat, Int.reduceMul, Int.reduceAdd, Int.reduceSub, Int.reduceEq, Nat.reduceLeDiff, Nat.reduceMul, List.lookup_cons_self, addD_lst]
    have f1 := List.length_filter_le (fun w => decide (nx w < n)) (wordsT n m t)
    have f2 := List.length_filter_le (fun w => decide (ny w < m)) (wordsT n m t)
    have es : (wordsT n m (t + 1)).map wD = ((wordsT n m t).filter fun w => decide (nx w < n)).map (fun w => wD (w ++ [true])) ++ ((wordsT n m t).filter fun w => decide (ny w < m)).map (fun w => wD (w ++ [false])) := by
      show (stepW n m (wordsT n m t)).map wD = _
      unfold stepW
      rw [List.map_append, List.map_map, List.map_map]
      rfl
    rw [es]
    exact ⟨by rw [List.length_map, List.length_map]; exact line_ok (by omega), _, _, _, rfl⟩
  · rintro ρ ⟨y3, y4, y5, rfl⟩
    simp (dsimp := false) only [↓okE_ok, ↓okE_ex, ↓okA_ok, ↓okA_ex, ↓okS_some, okD_some, okN_some, okL_some, okG_some, ↓okE_bind, ↓okE_aBind, ↓okS_bind, ↓okS_aBind, ↓okE_lift, ↓okE_V, ↓okE_C, ↓okE_1, ↓okE_2, ↓okA_nil, ↓okA_cons, ↓okE_B, ↓okE_Tup, ↓okE_Lst, tE2_bl, ↓okE_If, ↓okE_And, ↓okE_Or, nE_bl, ↓okE_Not, okB_some, ↓okE_Tru, cE_bl, ↓okE_Chain, ↓okE_Chain3, ↓okE_callR, ↓okE_Call, okI_ins, ↓okE_Prop, ↓okE_Meth, ↓okE_Make, okFs_ins, ↓okE_Fld, okT_str, ↓okE_Txt, ↓okE_Cel, okRS_str, ↓okE_RevS, ↓okE_RevL, ↓okE_RevT, tupRev_tup, rev_two, bitsD_int, b_gcd_int, b_comb_ok, b_tuple_tup, b_tuple_lst, b_str_str, b_str_int, addD_lst, addD_tup, catD_lst, repD_lst, mulD_lst, k_zip_lst, k_rev_lst, b_list_lst, b_list_tup, okSl_nn, okSl_in, okSl_ni, okSl_ii, ↓okE_Sl, ↓okE_No, okBd_int, ↓okE_Bd, ↓okE_iL, ↓okE_iT, ↓okE_iS, ↓okE_iA, okC_lst, ↓okE_Comp, okMu_some, ↓okE_Mut, ↓seqK_nx, ↓seqK_rt, ↓seqK_ex, ↓seqK_bk, ↓seqK_ct, ↓okS_Seq, ↓okS_Next, ↓okS_Dead, ↓okS_Brk, ↓okS_Ct, ↓okS_RetN, ↓okS_Raise, ↓okS_Ret, ↓okS_Expr, ↓okS_Set, ↓okS_Par, ↓okS_Aug, ↓okS_Asg, ↓okS_If, okX_some, okZ_int, ↓okS_Sub, okFp_ins, ↓okS_Fld, ↓retK_nx, ↓retK_rt, ↓retK_ex, ↓okF_run, okF_val, okF_exc, ↓lpK_nx, ↓lpK_ct, ↓lpK_bk, ↓lpK_rt, ↓lpK_ex, ↓okS_For, List.getElem?_cons_zero, List.getElem?_cons_succ, List.set_cons_zero, List.set_cons_succ, List.map_cons, List.map_nil, List.length_cons, List.length_nil, List.replicate_succ, List.replicate_zero, List.cons_append, List.nil_append, Option.join_some, Option.getD_some, Option.bind_some, Option.map_some, stD_cons, stD_nil, tgtD_nm, tgtD_tp, tgtsD_nil, tgtsD_cons, argD_full, argD_own, argD_root, argD_cel, argD_nil, putC_full, putC_own, putC_root, putC_cel, putC_nil, outs_t, outs_f, outs_nil, subD_int, addD_int, subI_int, addI_int, mulD_ok, modD_ok, divD_ok, pow1018, pow1015, powD_ok, shlD_ok, shrD_ok, addD_str, mulD_str, b_sum_2, b_len_str, b_len_lst, b_len_tup, k_enumT_str, k_enum_lst, okMu_app, okMu_ext, okL_rng1, okL_rng2, andD_int, xorD_int, negD_int, ltD_int, leD_int, gtD_int, geD_int, eqD_int, eqD_str, eqD_bl, neD_int, neD_str, neD_bl, ixL_0, ixL_1, ixL_2, ixL_3, ixT_0, ixT_1, ixT_2, ixT_3, ixN_0, ixN_1, ixN_2, ixN_3, isD_non, isntD_non, isN, b_int_int, b_int_bl, b_max2_int, b_min2_int, b_abs_int, m_count_str, listD_lst, listD_slst, tupD, strD, decide_eq_true_eq, decide_eq_false_iff_not, decide_true, decide_false, eq_self, and_true, true_and, if_true, if_false, Bool.false_eq_true, ↓reduceIte, Nat.reduceAdd, Nat.reduceSub, Nat.reduceLT, ite_true, ite_false, Bool.not_true, Bool.not_false, Int.toNat_natCast, Int.reduceLT, Int.reduceLE, Int.reduceToNat, Int.reduceMul, Int.reduceAdd, Int.reduceSub, Int.reduceEq, Nat.reduceLeDiff, Nat.reduceMul, List.lookup_cons_self])
theorem x_ahead_eq {n m p q : Nat} (hn : n < 5) (hm : m < 5) (hp : p < n) (hq : q < m) : fn_count_x_ahead [.int n, .int m, .int p, .int q] = some (.ok (.int (formX n m p q)) [.int n, .int m, .int p, .int q]) := eqF (by
  have e1 : (q : Int) + 1 = ((q + 1 : Nat) : Int) := by omega
  unfold fn_count_x_ahead
  simp (dsimp := false) only [↓okE_ok, ↓okE_ex, ↓okA_ok, ↓okA_ex, ↓okS_some, okD_some, okN_some, okL_some, okG_some, ↓okE_bind, ↓okE_aBind, ↓okS_bind, ↓okS_aBind, ↓okE_lift, ↓okE_V, ↓okE_C, ↓okE_1, ↓okE_2, ↓okA_nil, ↓okA_cons, ↓okE_B, ↓okE_Tup, ↓okE_Lst, tE2_bl, ↓okE_If, ↓okE_And, ↓okE_Or, nE_bl, ↓okE_Not, okB_some, ↓okE_Tru, cE_bl, ↓okE_Chain, ↓okE_Chain3, ↓okE_callR, ↓okE_Call, okI_ins, ↓okE_Prop, ↓okE_Meth, ↓okE_Make, okFs_ins, ↓okE_Fld, okT_str, ↓okE_Txt, ↓okE_Cel, okRS_str, ↓okE_RevS, ↓okE_RevL, ↓okE_RevT, tupRev_tup, rev_two, bitsD_int, b_gcd_int, b_comb_ok, b_tuple_tup, b_tuple_lst, b_str_str, b_str_int, addD_lst, addD_tup, catD_lst, repD_lst, mulD_lst, k_zip_lst, k_rev_lst, b_list_lst, b_list_tup, okSl_nn, okSl_in, okSl_ni, okSl_ii, ↓okE_Sl, ↓okE_No, okBd_int, ↓okE_Bd, ↓okE_iL, ↓okE_iT, ↓okE_iS, ↓okE_iA, okC_lst, ↓okE_Comp, okMu_some, ↓okE_Mut, ↓seqK_nx, ↓seqK_rt, ↓seqK_ex, ↓seqK_bk, ↓seqK_ct, ↓okS_Seq, ↓okS_Next, ↓okS_Dead, ↓okS_Brk, ↓okS_Ct, ↓okS_RetN, ↓okS_Raise, ↓okS_Ret, ↓okS_Expr, ↓okS_Set, ↓okS_Par, ↓okS_Aug, ↓okS_Asg, ↓okS_If, okX_some, okZ_int, ↓okS_Sub, okFp_ins, ↓okS_Fld, ↓retK_nx, ↓retK_rt, ↓retK_ex, ↓okF_run, okF_val, okF_exc, ↓lpK_nx, ↓lpK_ct, ↓lpK_bk, ↓lpK_rt, ↓lpK_ex, ↓okS_For, List.getElem?_cons_zero, List.getElem?_cons_succ, List.set_cons_zero, List.set_cons_succ, List.map_cons, List.map_nil, List.length_cons, List.length_nil, List.replicate_succ, List.replicate_zero, List.cons_append, List.nil_append, Option.join_some, Option.getD_some, Option.bind_some, Option.map_some, stD_cons, stD_nil, tgtD_nm, tgtD_tp, tgtsD_nil, tgtsD_cons, argD_full, argD_own, argD_root, argD_cel, argD_nil, putC_full, putC_own, putC_root, putC_cel, putC_nil, outs_t, outs_f, outs_nil, subD_int, addD_int, subI_int, addI_int, mulD_ok, modD_ok, divD_ok, pow1018, pow1015, powD_ok, shlD_ok, shrD_ok, addD_str, mulD_str, b_sum_2, b_len_str, b_len_lst, b_len_tup, k_enumT_str, k_enum_lst, okMu_app, okMu_ext, okL_rng1, okL_rng2, andD_int, xorD_int, negD_int, ltD_int, leD_int, gtD_int, geD_int, eqD_int, eqD_str, eqD_bl, neD_int, neD_str, neD_bl, ixL_0, ixL_1, ixL_2, ixL_3, ixT_0, ixT_1, ixT_2, ixT_3, ixN_0, ixN_1, ixN_2, ixN_3, isD_non, isntD_non, isN, b_int_int, b_int_bl, b_max2_int, b_min2_int, b_abs_int, m_count_str, listD_lst, listD_slst, tupD, strD, decide_eq_true_eq, decide_eq_false_iff_not, decide_true, decide_false, eq_self, and_true, true_and, if_true, if_false, Bool.false_eq_true, ↓reduceIte, Nat.reduceAdd, Nat.reduceSub, Nat.reduceLT, ite_true, ite_false, Bool.not_true, Bool.not_false, Int.toNat_natCast, Int.reduceLT, Int.reduceLE, Int.reduceToNat, Int.reduceMul, Int.reduceAdd, Int.reduceSub, Int.reduceEq, Nat.reduceLeDiff, Nat.reduceMul, List.lookup_cons_self, e1]
  refine ⟨by unfold rngC; omega, ?_⟩
  rw [rng_nat, compF_typed (gD := fun k : Nat => D.int (PySem.W.mcComb ((p : Int) + k) k * PySem.W.mcComb ((n : Int) - 1 - p + m - k) ((m : Int) - k))) (List.range (q + 1)) (by rw [List.length_range]; exact line_ok (by omega)) fun k hk => ⟨_, rfl, by
    have hk := List.mem_range.mp hk
    simp (dsimp := false) only [↓okE_ok, ↓okE_ex, ↓okA_ok, ↓okA_ex, ↓okS_some, okD_some, okN_some, okL_some, okG_some, ↓okE_bind, ↓okE_aBind, ↓okS_bind, ↓okS_aBind, ↓okE_lift, ↓okE_V, ↓okE_C, ↓okE_1, ↓okE_2, ↓okA_nil, ↓okA_cons, ↓okE_B, ↓okE_Tup, ↓okE_Lst, tE2_bl, ↓okE_If, ↓okE_And, ↓okE_Or, nE_bl, ↓okE_Not, okB_some, ↓okE_Tru, cE_bl, ↓okE_Chain, ↓okE_Chain3, ↓okE_callR, ↓okE_Call, okI_ins, ↓okE_Prop, ↓okE_Meth, ↓okE_Make, okFs_ins, ↓okE_Fld, okT_str, ↓okE_Txt, ↓okE_Cel, okRS_str, ↓okE_RevS, ↓okE_RevL, ↓okE_RevT, tupRev_tup, rev_two, bitsD_int, b_gcd_int, b_comb_ok, b_tuple_tup, b_tuple_lst, b_str_str, b_str_int, addD_lst, addD_tup, catD_lst, repD_lst, mulD_lst, k_zip_lst, k_rev_lst, b_list_lst, b_list_tup, okSl_nn, okSl_in, okSl_ni, okSl_ii, ↓okE_Sl, ↓okE_No, okBd_int, ↓okE_Bd, ↓okE_iL, ↓okE_iT, ↓okE_iS, ↓okE_iA, okC_lst, ↓okE_Comp, okMu_some, ↓okE_Mut, ↓seqK_nx, ↓seqK_rt, ↓seqK_ex, ↓seqK_bk, ↓seqK_ct, ↓okS_Seq, ↓okS_Next, ↓okS_Dead, ↓okS_Brk, ↓okS_Ct, ↓okS_RetN, ↓okS_Raise, ↓okS_Ret, ↓okS_Expr, ↓okS_Set, ↓okS_Par, ↓okS_Aug, ↓okS_Asg, ↓okS_If, okX_some, okZ_int, ↓okS_Sub, okFp_ins, ↓okS_Fld, ↓retK_nx, ↓retK_rt, ↓retK_ex, ↓okF_run, okF_val, okF_exc, ↓lpK_nx, ↓lpK_ct, ↓lpK_bk, ↓lpK_rt, ↓lpK_ex, ↓okS_For, List.getElem?_cons_zero, List.getElem?_cons_succ, List.set_cons_zero, List.set_cons_succ, List.map_cons, List.map_nil, List.length_cons, List.length_nil, List.replicate_succ, List.replicate_zero, List.cons_append, List.nil_append, Option.join_some, Option.getD_some, Option.bind_some, Option.map_some, stD_cons, stD_nil, tgtD_nm, tgtD_tp, tgtsD_nil, tgtsD_cons, argD_full, argD_own, argD_root, argD_cel, argD_nil, putC_full, putC_own, putC_root, putC_cel, putC_nil, outs_t, outs_f, outs_nil, subD_int, addD_int, subI_int, addI_int, mulD_ok, modD_ok, divD_ok, pow1018, pow1015, powD_ok, shlD_ok, shrD_ok, addD_str, mulD_str, b_sum_2, b_len_str, b_len_lst, b_len_tup, k_enumT_str, k_enum_lst, okMu_app, okMu_ext, okL_rng1, okL_rng2, andD_int, xorD_int, negD_int, ltD_int, leD_int, gtD_int, geD_int, eqD_int, eqD_str, eqD_bl, neD_int, neD_str, neD_bl, ixL_0, ixL_1, ixL_2, ixL_3, ixT_0, ixT_1, ixT_2, ixT_3, ixN_0, ixN_1, ixN_2, ixN_3, isD_non, isntD_non, isN, b_int_int, b_int_bl, b_max2_int, b_min2_int, b_abs_int, m_count_str, listD_lst, listD_slst, tupD, strD, decide_eq_true_eq, decide_eq_false_iff_not, decide_true, decide_false, eq_self, and_true, true_and, if_true, if_false, Bool.false_eq_true, ↓reduceIte, Nat.reduceAdd, Nat.reduceSub, Nat.reduceLT, ite_true, ite_false, Bool.not_true, Bool.not_false, Int.toNat_natCast, Int.reduceLT, Int.reduceLE, Int.reduceToNat, Int.reduceMul, Int.reduceAdd, Int.reduceSub, Int.reduceEq, Nat.reduceLeDiff, Nat.reduceMul, List.lookup_cons_self, wipeD]
    have c1 := comb_small (p + k) (by omega) k (by omega)
    rw [Int.natCast_add] at c1
    exact ⟨⟨by omega, by omega, by omega, by omega⟩, ⟨by omega, by omega, by omega, by omega⟩, mulL ⟨by omega, by omega⟩⟩, rfl⟩]
  rw [show (List.range (q + 1)).map (fun k : Nat => D.int (PySem.W.mcComb ((p : Int) + k) k * PySem.W.mcComb ((n : Int) - 1 - p + m - k) ((m : Int) - k))) = ((List.range (q + 1)).map fun k : Nat => PySem.W.mcComb ((p : Int) + k) k * PySem.W.mcComb ((n : Int) - 1 - p + m - k) ((m : Int) - k)).map D.int by rw [List.map_map]; rfl]
  simp (dsimp := false) only [↓okE_ok, ↓okE_ex, ↓okA_ok, ↓okA_ex, ↓okS_some, okD_some, okN_some, okL_some, okG_some, ↓okE_bind, ↓okE_aBind, ↓okS_bind, ↓okS_aBind, ↓okE_lift, ↓okE_V, ↓okE_C, ↓okE_1, ↓okE_2, ↓okA_nil, ↓okA_cons, ↓okE_B, ↓okE_Tup, ↓okE_Lst, tE2_bl, ↓okE_If, ↓okE_And, ↓okE_Or, nE_bl, ↓okE_Not, okB_some, ↓okE_Tru, cE_bl, ↓okE_Chain, ↓okE_Chain3, ↓okE_callR, ↓okE_Call, okI_ins, ↓okE_Prop, ↓okE_Meth, ↓okE_Make, okFs_ins, ↓okE_Fld, okT_str, ↓okE_Txt, ↓okE_Cel, okRS_str, ↓okE_RevS, ↓okE_RevL, ↓okE_RevT, tupRev_tup, rev_two, bitsD_int, b_gcd_int, b_comb_ok, b_tuple_tup, b_tuple_lst, b_str_str, b_str_int, addD_lst, addD_tup, catD_lst, repD_lst, mulD_lst, k_zip_lst, k_rev_lst, b_list_lst, b_list_tup, okSl_nn, okSl_in, okSl_ni, okSl_ii, ↓okE_Sl, ↓okE_No, okBd_int, ↓okE_Bd, ↓okE_iL, ↓okE_iT, ↓okE_iS, ↓okE_iA, okC_lst, ↓okE_Comp, okMu_some, ↓okE_Mut, ↓seqK_nx, ↓seqK_rt, ↓seqK_ex, ↓seqK_bk, ↓seqK_ct, ↓okS_Seq, ↓okS_Next, ↓okS_Dead, ↓okS_Brk, ↓okS_Ct, ↓okS_RetN, ↓okS_Raise, ↓okS_Ret, ↓okS_Expr, ↓okS_Set, ↓okS_Par, ↓okS_Aug, ↓okS_Asg, ↓okS_If, okX_some, okZ_int, ↓okS_Sub, okFp_ins, ↓okS_Fld, ↓retK_nx, ↓retK_rt, ↓retK_ex, ↓okF_run, okF_val, okF_exc, ↓lpK_nx, ↓lpK_ct, ↓lpK_bk, ↓lpK_rt, ↓lpK_ex, ↓okS_For, List.getElem?_cons_zero, List.getElem?_cons_succ, List.set_cons_zero, List.set_cons_succ, List.map_cons, List.map_nil, List.length_cons, List.length_nil, List.replicate_succ, List.replicate_zero, List.cons_append, List.nil_append, Option.join_some, Option.getD_some, Option.bind_some, Option.map_some, stD_cons, stD_nil, tgtD_nm, tgtD_tp, tgtsD_nil, tgtsD_cons, argD_full, argD_own, argD_root, argD_cel, argD_nil, putC_full, putC_own, putC_root, putC_cel, putC_nil, outs_t, outs_f, outs_nil, subD_int, addD_int, subI_int, addI_int, mulD_ok, modD_ok, divD_ok, pow1018, pow1015, powD_ok, shlD_ok, shrD_ok, addD_str, mulD_str, b_sum_2, b_len_str, b_len_lst, b_len_tup, k_enumT_str, k_enum_lst, okMu_app, okMu_ext, okL_rng1, okL_rng2, andD_int, xorD_int, negD_int, ltD_int, leD_int, gtD_int, geD_int, eqD_int, eqD_str, eqD_bl, neD_int, neD_str, neD_bl, ixL_0, ixL_1, ixL_2, ixL_3, ixT_0, ixT_1, ixT_2, ixT_3, ixN_0, ixN_1, ixN_2, ixN_3, isD_non, isntD_non, isN, b_int_int, b_int_bl, b_max2_int, b_min2_int, b_abs_int, m_count_str, listD_lst, listD_slst, tupD, strD, decide_eq_true_eq, decide_eq_false_iff_not, decide_true, decide_false, eq_self, and_true, true_and, if_true, if_false, Bool.false_eq_true, ↓reduceIte, Nat.reduceAdd, Nat.reduceSub, Nat.reduceLT, ite_true, ite_false, Bool.not_true, Bool.not_false, Int.toNat_natCast, Int.reduceLT, Int.reduceLE, Int.reduceToNat, Int.reduceMul, Int.reduceAdd, Int.reduceSub, Int.reduceEq, Nat.reduceLeDiff, Nat.reduceMul, List.lookup_cons_self, b_sum_ints]
  rfl)
theorem check_bits_eq {n m : Nat} (hn : n ≤ 100) (hm : m ≤ 100) (h : 1 ≤ n + m) : fn_check_bits [.int n, .int m] = some (.ok .non [.int n, .int m]) := eqF (by
  unfold fn_check_bits
  simp (dsimp := false) only [↓okE_ok, ↓okE_ex, ↓okA_ok, ↓okA_ex, ↓okS_some, okD_some, okN_some, okL_some, okG_some, ↓okE_bind, ↓okE_aBind, ↓okS_bind, ↓okS_aBind, ↓okE_lift, ↓okE_V, ↓okE_C, ↓okE_1, ↓okE_2, ↓okA_nil, ↓okA_cons, ↓okE_B, ↓okE_Tup, ↓okE_Lst, tE2_bl, ↓okE_If, ↓okE_And, ↓okE_Or, nE_bl, ↓okE_Not, okB_some, ↓okE_Tru, cE_bl, ↓okE_Chain, ↓okE_Chain3, ↓okE_callR, ↓okE_Call, okI_ins, ↓okE_Prop, ↓okE_Meth, ↓okE_Make, okFs_ins, ↓okE_Fld, okT_str, ↓okE_Txt, ↓okE_Cel, okRS_str, ↓okE_RevS, ↓okE_RevL, ↓okE_RevT, tupRev_tup, rev_two, bitsD_int, b_gcd_int, b_comb_ok, b_tuple_tup, b_tuple_lst, b_str_str, b_str_int, addD_lst, addD_tup, catD_lst, repD_lst, mulD_lst, k_zip_lst, k_rev_lst, b_list_lst, b_list_tup, okSl_nn, okSl_in, okSl_ni, okSl_ii, ↓okE_Sl, ↓okE_No, okBd_int, ↓okE_Bd, ↓okE_iL, ↓okE_iT, ↓okE_iS, ↓okE_iA, okC_lst, ↓okE_Comp, okMu_some, ↓okE_Mut, ↓seqK_nx, ↓seqK_rt, ↓seqK_ex, ↓seqK_bk, ↓seqK_ct, ↓okS_Seq, ↓okS_Next, ↓okS_Dead, ↓okS_Brk, ↓okS_Ct, ↓okS_RetN, ↓okS_Raise, ↓okS_Ret, ↓okS_Expr, ↓okS_Set, ↓okS_Par, ↓okS_Aug, ↓okS_Asg, ↓okS_If, okX_some, okZ_int, ↓okS_Sub, okFp_ins, ↓okS_Fld, ↓retK_nx, ↓retK_rt, ↓retK_ex, ↓okF_run, okF_val, okF_exc, ↓lpK_nx, ↓lpK_ct, ↓lpK_bk, ↓lpK_rt, ↓lpK_ex, ↓okS_For, List.getElem?_cons_zero, List.getElem?_cons_succ, List.set_cons_zero, List.set_cons_succ, List.map_cons, List.map_nil, List.length_cons, List.length_nil, List.replicate_succ, List.replicate_zero, List.cons_append, List.nil_append, Option.join_some, Option.getD_some, Option.bind_some, Option.map_some, stD_cons, stD_nil, tgtD_nm, tgtD_tp, tgtsD_nil, tgtsD_cons, argD_full, argD_own, argD_root, argD_cel, argD_nil, putC_full, putC_own, putC_root, putC_cel, putC_nil, outs_t, outs_f, outs_nil, subD_int, addD_int, subI_int, addI_int, mulD_ok, modD_ok, divD_ok, pow1018, pow1015, powD_ok, shlD_ok, shrD_ok, addD_str, mulD_str, b_sum_2, b_len_str, b_len_lst, b_len_tup, k_enumT_str, k_enum_lst, okMu_app, okMu_ext, okL_rng1, okL_rng2, andD_int, xorD_int, negD_int, ltD_int, leD_int, gtD_int, geD_int, eqD_int, eqD_str, eqD_bl, neD_int, neD_str, neD_bl, ixL_0, ixL_1, ixL_2, ixL_3, ixT_0, ixT_1, ixT_2, ixT_3, ixN_0, ixN_1, ixN_2, ixN_3, isD_non, isntD_non, isN, b_int_int, b_int_bl, b_max2_int, b_min2_int, b_abs_int, m_count_str, listD_lst, listD_slst, tupD, strD, decide_eq_true_eq, decide_eq_false_iff_not, decide_true, decide_false, eq_self, and_true, true_and, if_true, if_false, Bool.false_eq_true, ↓reduceIte, Nat.reduceAdd, Nat.reduceSub, Nat.reduceLT, ite_true, ite_false, Bool.not_true, Bool.not_false, Int.toNat_natCast, Int.reduceLT, Int.reduceLE, Int.reduceToNat, Int.reduceMul, Int.reduceAdd, Int.reduceSub, Int.reduceEq, Nat.reduceLeDiff, Nat.reduceMul, List.lookup_cons_self, is_between_eq, decide_eq_true (show (0 : Int) ≤ n ∧ (n : Int) ≤ 100 by omega), decide_eq_true (show (0 : Int) ≤ m ∧ (m : Int) ≤ 100 by omega)]
  by_cases h1 : (n : Int) = 0
  · rw [if_pos h1, if_neg (by omega)]
    exact trivial
  · rw [if_neg h1]
    exact trivial)
theorem count_ahead_eq {n m x1 y1 x2 y2 : Nat} (hn : n < 5) (hm : m < 5) (h : 1 ≤ n + m) (h1 : x1 < 2 ^ n) (h2 : y1 < 2 ^ m) (h3 : x2 < 2 ^ n) (h4 : y2 < 2 ^ m) : fn_count_ahead [.int n, .int m, .tup [.int x1, .int y1], .tup [.int x2, .int y2]] = some (.ok (.int (aheadN n m x1 y1 x2 y2 : Nat)) [.int n, .int m, .tup [.int x1, .int y1], .tup [.int x2, .int y2]]) := eqF (by
  have cb : combC ((n : Int) + m) n := ⟨by omega, by omega, by omega, by omega⟩
  unfold fn_count_ahead
  by_cases gx : x2 ≤ x1 <;> by_cases gy : y2 ≤ y1
  · have g1 : (x1 : Int) ≥ x2 := by omega
    have g2 : (y1 : Int) ≥ y2 := by omega
    rw [ahead_none hn hm h1 h2 h3 h4 gx gy]
    simp (dsimp := false) only [↓okE_ok, ↓okE_ex, ↓okA_ok, ↓okA_ex, ↓okS_some, okD_some, okN_some, okL_some, okG_some, ↓okE_bind, ↓okE_aBind, ↓okS_bind, ↓okS_aBind, ↓okE_lift, ↓okE_V, ↓okE_C, ↓okE_1, ↓okE_2, ↓okA_nil, ↓okA_cons, ↓okE_B, ↓okE_Tup, ↓okE_Lst, tE2_bl, ↓okE_If, ↓okE_And, ↓okE_Or, nE_bl, ↓okE_Not, okB_some, ↓okE_Tru, cE_bl, ↓okE_Chain, ↓okE_Chain3, ↓okE_callR, ↓okE_Call, okI_ins, ↓okE_Prop, ↓okE_Meth, ↓okE_Make, okFs_ins, ↓okE_Fld, okT_str, ↓okE_Txt, ↓okE_Cel, okRS_str, ↓okE_RevS, ↓okE_RevL, ↓okE_RevT, tupRev_tup, rev_two, bitsD_int, b_gcd_int, b_comb_ok, b_tuple_tup, b_tuple_lst, b_str_str, b_str_int, addD_lst, addD_tup, catD_lst, repD_lst, mulD_lst, k_zip_lst, k_rev_lst, b_list_lst, b_list_tup, okSl_nn, okSl_in, okSl_ni, okSl_ii, ↓okE_Sl, ↓okE_No, okBd_int, ↓okE_Bd, ↓okE_iL, ↓okE_iT, ↓okE_iS, ↓okE_iA, okC_lst, ↓okE_Comp, okMu_some, ↓okE_Mut, ↓seqK_nx, ↓seqK_rt, ↓seqK_ex, ↓seqK_bk, ↓seqK_ct, ↓okS_Seq, ↓okS_Next, ↓okS_Dead, ↓okS_Brk, ↓okS_Ct, ↓okS_RetN, ↓okS_Raise, ↓okS_Ret, ↓okS_Expr, ↓okS_Set, ↓okS_Par, ↓okS_Aug, ↓okS_Asg, ↓okS_If, okX_some, okZ_int, ↓okS_Sub, okFp_ins, ↓okS_Fld, ↓retK_nx, ↓retK_rt, ↓retK_ex, ↓okF_run, okF_val, okF_exc, ↓lpK_nx, ↓lpK_ct, ↓lpK_bk, ↓lpK_rt, ↓lpK_ex, ↓okS_For, List.getElem?_cons_zero, List.getElem?_cons_succ, List.set_cons_zero, List.set_cons_succ, List.map_cons, List.map_nil, List.length_cons, List.length_nil, List.replicate_succ, List.replicate_zero, List.cons_append, List.nil_append, Option.join_some, Option.getD_some, Option.bind_some, Option.map_some, stD_cons, stD_nil, tgtD_nm, tgtD_tp, tgtsD_nil, tgtsD_cons, argD_full, argD_own, argD_root, argD_cel, argD_nil, putC_full, putC_own, putC_root, putC_cel, putC_nil, outs_t, outs_f, outs_nil, subD_int, addD_int, subI_int, addI_int, mulD_ok, modD_ok, divD_ok, pow1018, pow1015, powD_ok, shlD_ok, shrD_ok, addD_str, mulD_str, b_sum_2, b_len_str, b_len_lst, b_len_tup, k_enumT_str, k_enum_lst, okMu_app, okMu_ext, okL_rng1, okL_rng2, andD_int, xorD_int, negD_int, ltD_int, leD_int, gtD_int, geD_int, eqD_int, eqD_str, eqD_bl, neD_int, neD_str, neD_bl, ixL_0, ixL_1, ixL_2, ixL_3, ixT_0, ixT_1, ixT_2, ixT_3, ixN_0, ixN_1, ixN_2, ixN_3, isD_non, isntD_non, isN, b_int_int, b_int_bl, b_max2_int, b_min2_int, b_abs_int, m_count_str, listD_lst, listD_slst, tupD, strD, decide_eq_true_eq, decide_eq_false_iff_not, decide_true, decide_false, eq_self, and_true, true_and, if_true, if_false, Bool.false_eq_true, ↓reduceIte, Nat.reduceAdd, Nat.reduceSub, Nat.reduceLT, ite_true, ite_false, Bool.not_true, Bool.not_false, Int.toNat_natCast, Int.reduceLT, Int.reduceLE, Int.reduceToNat, Int.reduceMul, Int.reduceAdd, Int.reduceSub, Int.reduceEq, Nat.reduceLeDiff, Nat.reduceMul, List.lookup_cons_self, check_bits_eq (show n ≤ 100 by omega) (show m ≤ 100 by omega) h, check_cell_eq (show n ≤ 100 by omega) (show m ≤ 100 by omega) h1 h2, check_cell_eq (show n ≤ 100 by omega) (show m ≤ 100 by omega) h3 h4, g1, g2]
    rfl
  · have g1 : (x1 : Int) ≥ x2 := by omega
    have g2 : ¬ (y1 : Int) ≥ y2 := by omega
    by_cases ex : x1 ≤ x2
    · have g3 : (x1 : Int) ≤ x2 := by omega
      have g4 : (y1 : Int) ≤ y2 := by omega
      have ev := ahead_all hn hm h1 h2 h3 h4 ex (by omega) (by omega)
      rw [ev]
      simp (dsimp := false) only [↓okE_ok, ↓okE_ex, ↓okA_ok, ↓okA_ex, ↓okS_some, okD_some, okN_some, okL_some, okG_some, ↓okE_bind, ↓okE_aBind, ↓okS_bind, ↓okS_aBind, ↓okE_lift, ↓okE_V, ↓okE_C, ↓okE_1, ↓okE_2, ↓okA_nil, ↓okA_cons, ↓okE_B, ↓okE_Tup, ↓okE_Lst, tE2_bl, ↓okE_If, ↓okE_And, ↓okE_Or, nE_bl, ↓okE_Not, okB_some, ↓okE_Tru, cE_bl, ↓okE_Chain, ↓okE_Chain3, ↓okE_callR, ↓okE_Call, okI_ins, ↓okE_Prop, ↓okE_Meth, ↓okE_Make, okFs_ins, ↓okE_Fld, okT_str, ↓okE_Txt, ↓okE_Cel, okRS_str, ↓okE_RevS, ↓okE_RevL, ↓okE_RevT, tupRev_tup, rev_two, bitsD_int, b_gcd_int, b_comb_ok, b_tuple_tup, b_tuple_lst, b_str_str, b_str_int, addD_lst, addD_tup, catD_lst, repD_lst, mulD_lst, k_zip_lst, k_rev_lst, b_list_lst, b_list_tup, okSl_nn, okSl_in, okSl_ni, okSl_ii, ↓okE_Sl, ↓okE_No, okBd_int, ↓okE_Bd, ↓okE_iL, ↓okE_iT, ↓okE_iS, ↓okE_iA, okC_lst, ↓okE_Comp, okMu_some, ↓okE_Mut, ↓seqK_nx, ↓seqK_rt, ↓seqK_ex, ↓seqK_bk, ↓seqK_ct, ↓okS_Seq, ↓okS_Next, ↓okS_Dead, ↓okS_Brk, ↓okS_Ct, ↓okS_RetN, ↓okS_Raise, ↓okS_Ret, ↓okS_Expr, ↓okS_Set, ↓okS_Par, ↓okS_Aug, ↓okS_Asg, ↓okS_If, okX_some, okZ_int, ↓okS_Sub, okFp_ins, ↓okS_Fld, ↓retK_nx, ↓retK_rt, ↓retK_ex, ↓okF_run, okF_val, okF_exc, ↓lpK_nx, ↓lpK_ct, ↓lpK_bk, ↓lpK_rt, ↓lpK_ex, ↓okS_For, List.getElem?_cons_zero, List.getElem?_cons_succ, List.set_cons_zero, List.set_cons_succ, List.map_cons, List.map_nil, List.length_cons, List.length_nil, List.replicate_succ, List.replicate_zero, List.cons_append, List.nil_append, Option.join_some, Option.getD_some, Option.bind_some, Option.map_some, stD_cons, stD_nil, tgtD_nm, tgtD_tp, tgtsD_nil, tgtsD_cons, argD_full, argD_own, argD_root, argD_cel, argD_nil, putC_full, putC_own, putC_root, putC_cel, putC_nil, outs_t, outs_f, outs_nil, subD_int, addD_int, subI_int, addI_int, mulD_ok, modD_ok, divD_ok, pow1018, pow1015, powD_ok, shlD_ok, shrD_ok, addD_str, mulD_str, b_sum_2, b_len_str, b_len_lst, b_len_tup, k_enumT_str, k_enum_lst, okMu_app, okMu_ext, okL_rng1, okL_rng2, andD_int, xorD_int, negD_int, ltD_int, leD_int, gtD_int, geD_int, eqD_int, eqD_str, eqD_bl, neD_int, neD_str, neD_bl, ixL_0, ixL_1, ixL_2, ixL_3, ixT_0, ixT_1, ixT_2, ixT_3, ixN_0, ixN_1, ixN_2, ixN_3, isD_non, isntD_non, isN, b_int_int, b_int_bl, b_max2_int, b_min2_int, b_abs_int, m_count_str, listD_lst, listD_slst, tupD, strD, decide_eq_true_eq, decide_eq_false_iff_not, decide_true, decide_false, eq_self, and_true, true_and, if_true, if_false, Bool.false_eq_true, ↓reduceIte, Nat.reduceAdd, Nat.reduceSub, Nat.reduceLT, ite_true, ite_false, Bool.not_true, Bool.not_false, Int.toNat_natCast, Int.reduceLT, Int.reduceLE, Int.reduceToNat, Int.reduceMul, Int.reduceAdd, Int.reduceSub, Int.reduceEq, Nat.reduceLeDiff, Nat.reduceMul, List.lookup_cons_self, check_bits_eq (show n ≤ 100 by omega) (show m ≤ 100 by omega) h, check_cell_eq (show n ≤ 100 by omega) (show m ≤ 100 by omega) h1 h2, check_cell_eq (show n ≤ 100 by omega) (show m ≤ 100 by omega) h3 h4, g1, g2, g3, g4]
      exact cb
    · have g3 : ¬ (x1 : Int) ≤ x2 := by omega
      have g5 : ¬ (x1 : Int) < x2 := by omega
      obtain ⟨i, li, pi, ei⟩ := xor_parts h1 h3 hn (by omega)
      obtain ⟨j, lj, pj, ej⟩ := xor_parts h2 h4 hm (by omega)
      have ev := ahead_y hn hm h1 h2 h3 h4 pi pj (by omega) (by omega)
      rw [ev]
      simp (dsimp := false) only [↓okE_ok, ↓okE_ex, ↓okA_ok, ↓okA_ex, ↓okS_some, okD_some, okN_some, okL_some, okG_some, ↓okE_bind, ↓okE_aBind, ↓okS_bind, ↓okS_aBind, ↓okE_lift, ↓okE_V, ↓okE_C, ↓okE_1, ↓okE_2, ↓okA_nil, ↓okA_cons, ↓okE_B, ↓okE_Tup, ↓okE_Lst, tE2_bl, ↓okE_If, ↓okE_And, ↓okE_Or, nE_bl, ↓okE_Not, okB_some, ↓okE_Tru, cE_bl, ↓okE_Chain, ↓okE_Chain3, ↓okE_callR, ↓okE_Call, okI_ins, ↓okE_Prop, ↓okE_Meth, ↓okE_Make, okFs_ins, ↓okE_Fld, okT_str, ↓okE_Txt, ↓okE_Cel, okRS_str, ↓okE_RevS, ↓okE_RevL, ↓okE_RevT, tupRev_tup, rev_two, bitsD_int, b_gcd_int, b_comb_ok, b_tuple_tup, b_tuple_lst, b_str_str, b_str_int, addD_lst, addD_tup, catD_lst, repD_lst, mulD_lst, k_zip_lst, k_rev_lst, b_list_lst, b_list_tup, okSl_nn, okSl_in, okSl_ni, okSl_ii, ↓okE_Sl, ↓okE_No, okBd_int, ↓okE_Bd, ↓okE_iL, ↓okE_iT, ↓okE_iS, ↓okE_iA, okC_lst, ↓okE_Comp, okMu_some, ↓okE_Mut, ↓seqK_nx, ↓seqK_rt, ↓seqK_ex, ↓seqK_bk, ↓seqK_ct, ↓okS_Seq, ↓okS_Next, ↓okS_Dead, ↓okS_Brk, ↓okS_Ct, ↓okS_RetN, ↓okS_Raise, ↓okS_Ret, ↓okS_Expr, ↓okS_Set, ↓okS_Par, ↓okS_Aug, ↓okS_Asg, ↓okS_If, okX_some, okZ_int, ↓okS_Sub, okFp_ins, ↓okS_Fld, ↓retK_nx, ↓retK_rt, ↓retK_ex, ↓okF_run, okF_val, okF_exc, ↓lpK_nx, ↓lpK_ct, ↓lpK_bk, ↓lpK_rt, ↓lpK_ex, ↓okS_For, List.getElem?_cons_zero, List.getElem?_cons_succ, List.set_cons_zero, List.set_cons_succ, List.map_cons, List.map_nil, List.length_cons, List.length_nil, List.replicate_succ, List.replicate_zero, List.cons_append, List.nil_append, Option.join_some, Option.getD_some, Option.bind_some, Option.map_some, stD_cons, stD_nil, tgtD_nm, tgtD_tp, tgtsD_nil, tgtsD_cons, argD_full, argD_own, argD_root, argD_cel, argD_nil, putC_full, putC_own, putC_root, putC_cel, putC_nil, outs_t, outs_f, outs_nil, subD_int, addD_int, subI_int, addI_int, mulD_ok, modD_ok, divD_ok, pow1018, pow1015, powD_ok, shlD_ok, shrD_ok, addD_str, mulD_str, b_sum_2, b_len_str, b_len_lst, b_len_tup, k_enumT_str, k_enum_lst, okMu_app, okMu_ext, okL_rng1, okL_rng2, andD_int, xorD_int, negD_int, ltD_int, leD_int, gtD_int, geD_int, eqD_int, eqD_str, eqD_bl, neD_int, neD_str, neD_bl, ixL_0, ixL_1, ixL_2, ixL_3, ixT_0, ixT_1, ixT_2, ixT_3, ixN_0, ixN_1, ixN_2, ixN_3, isD_non, isntD_non, isN, b_int_int, b_int_bl, b_max2_int, b_min2_int, b_abs_int, m_count_str, listD_lst, listD_slst, tupD, strD, decide_eq_true_eq, decide_eq_false_iff_not, decide_true, decide_false, eq_self, and_true, true_and, if_true, if_false, Bool.false_eq_true, ↓reduceIte, Nat.reduceAdd, Nat.reduceSub, Nat.reduceLT, ite_true, ite_false, Bool.not_true, Bool.not_false, Int.toNat_natCast, Int.reduceLT, Int.reduceLE, Int.reduceToNat, Int.reduceMul, Int.reduceAdd, Int.reduceSub, Int.reduceEq, Nat.reduceLeDiff, Nat.reduceMul, List.lookup_cons_self, check_bits_eq (show n ≤ 100 by omega) (show m ≤ 100 by omega) h, check_cell_eq (show n ≤ 100 by omega) (show m ≤ 100 by omega) h1 h2, check_cell_eq (show n ≤ 100 by omega) (show m ≤ 100 by omega) h3 h4, g1, g2, g3, g5, ei, ej, x_ahead_eq hn hm (show n - 1 - i < n by omega) (show m - 1 - j < m by omega)]
      exact cb
  · have g1 : ¬ (x1 : Int) ≥ x2 := by omega
    have g3 : (x1 : Int) ≤ x2 := by omega
    have g5 : (x1 : Int) < x2 := by omega
    by_cases ey : y1 ≤ y2
    · have g4 : (y1 : Int) ≤ y2 := by omega
      have ev := ahead_all hn hm h1 h2 h3 h4 (by omega) ey (by omega)
      rw [ev]
      simp (dsimp := false) only [↓okE_ok, ↓okE_ex, ↓okA_ok, ↓okA_ex, ↓okS_some, okD_some, okN_some, okL_some, okG_some, ↓okE_bind, ↓okE_aBind, ↓okS_bind, ↓okS_aBind, ↓okE_lift, ↓okE_V, ↓okE_C, ↓okE_1, ↓okE_2, ↓okA_nil, ↓okA_cons, ↓okE_B, ↓okE_Tup, ↓okE_Lst, tE2_bl, ↓okE_If, ↓okE_And, ↓okE_Or, nE_bl, ↓okE_Not, okB_some, ↓okE_Tru, cE_bl, ↓okE_Chain, ↓okE_Chain3, ↓okE_callR, ↓okE_Call, okI_ins, ↓okE_Prop, ↓okE_Meth, ↓okE_Make, okFs_ins, ↓okE_Fld, okT_str, ↓okE_Txt, ↓okE_Cel, okRS_str, ↓okE_RevS, ↓okE_RevL, ↓okE_RevT, tupRev_tup, rev_two, bitsD_int, b_gcd_int, b_comb_ok, b_tuple_tup, b_tuple_lst, b_str_str, b_str_int, addD_lst, addD_tup, catD_lst, repD_lst, mulD_lst, k_zip_lst, k_rev_lst, b_list_lst, b_list_tup, okSl_nn, okSl_in, okSl_ni, okSl_ii, ↓okE_Sl, ↓okE_No, okBd_int, ↓okE_Bd, ↓okE_iL, ↓okE_iT, ↓okE_iS, ↓okE_iA, okC_lst, ↓okE_Comp, okMu_some, ↓okE_Mut, ↓seqK_nx, ↓seqK_rt, ↓seqK_ex, ↓seqK_bk, ↓seqK_ct, ↓okS_Seq, ↓okS_Next, ↓okS_Dead, ↓okS_Brk, ↓okS_Ct, ↓okS_RetN, ↓okS_Raise, ↓okS_Ret, ↓okS_Expr, ↓okS_Set, ↓okS_Par, ↓okS_Aug, ↓okS_Asg, ↓okS_If, okX_some, okZ_int, ↓okS_Sub, okFp_ins, ↓okS_Fld, ↓retK_nx, ↓retK_rt, ↓retK_ex, ↓okF_run, okF_val, okF_exc, ↓lpK_nx, ↓lpK_ct, ↓lpK_bk, ↓lpK_rt, ↓lpK_ex, ↓okS_For, List.getElem?_cons_zero, List.getElem?_cons_succ, List.set_cons_zero, List.set_cons_succ, List.map_cons, List.map_nil, List.length_cons, List.length_nil, List.replicate_succ, List.replicate_zero, List.cons_append, List.nil_append, Option.join_some, Option.getD_some, Option.bind_some, Option.map_some, stD_cons, stD_nil, tgtD_nm, tgtD_tp, tgtsD_nil, tgtsD_cons, argD_full, argD_own, argD_root, argD_cel, argD_nil, putC_full, putC_own, putC_root, putC_cel, putC_nil, outs_t, outs_f, outs_nil, subD_int, addD_int, subI_int, addI_int, mulD_ok, modD_ok, divD_ok, pow1018, pow1015, powD_ok, shlD_ok, shrD_ok, addD_str, mulD_str, b_sum_2, b_len_str, b_len_lst, b_len_tup, k_enumT_str, k_enum_lst, okMu_app, okMu_ext, okL_rng1, okL_rng2, andD_int, xorD_int, negD_int, ltD_int, leD_int, gtD_int, geD_int, eqD_int, eqD_str, eqD_bl, neD_int, neD_str, neD_bl, ixL_0, ixL_1, ixL_2, ixL_3, ixT_0, ixT_1, ixT_2, ixT_3, ixN_0, ixN_1, ixN_2, ixN_3, isD_non, isntD_non, isN, b_int_int, b_int_bl, b_max2_int, b_min2_int, b_abs_int, m_count_str, listD_lst, listD_slst, tupD, strD, decide_eq_true_eq, decide_eq_false_iff_not, decide_true, decide_false, eq_self, and_true, true_and, if_true, if_false, Bool.false_eq_true, ↓reduceIte, Nat.reduceAdd, Nat.reduceSub, Nat.reduceLT, ite_true, ite_false, Bool.not_true, Bool.not_false, Int.toNat_natCast, Int.reduceLT, Int.reduceLE, Int.reduceToNat, Int.reduceMul, Int.reduceAdd, Int.reduceSub, Int.reduceEq, Nat.reduceLeDiff, Nat.reduceMul, List.lookup_cons_self, check_bits_eq (show n ≤ 100 by omega) (show m ≤ 100 by omega) h, check_cell_eq (show n ≤ 100 by omega) (show m ≤ 100 by omega) h1 h2, check_cell_eq (show n ≤ 100 by omega) (show m ≤ 100 by omega) h3 h4, g1, g3, g4]
      exact cb
    · have g4 : ¬ (y1 : Int) ≤ y2 := by omega
      obtain ⟨i, li, pi, ei⟩ := xor_parts h1 h3 hn (by omega)
      obtain ⟨j, lj, pj, ej⟩ := xor_parts h2 h4 hm (by omega)
      have ev := ahead_x hn hm h1 h2 h3 h4 pi pj (by omega) (by omega)
      rw [ev]
      simp (dsimp := false) only [↓okE_ok, ↓okE_ex, ↓okA_ok, ↓okA_ex, ↓okS_some, okD_some, okN_some, okL_some, okG_some, ↓okE_bind, ↓okE_aBind, ↓okS_bind, ↓okS_aBind, ↓okE_lift, ↓okE_V, ↓okE_C, ↓okE_1, ↓okE_2, ↓okA_nil, ↓okA_cons, ↓okE_B, ↓okE_Tup, ↓okE_Lst, tE2_bl, ↓okE_If, ↓okE_And, ↓okE_Or, nE_bl, ↓okE_Not, okB_some, ↓okE_Tru, cE_bl, ↓okE_Chain, ↓okE_Chain3, ↓okE_callR, ↓okE_Call, okI_ins, ↓okE_Prop, ↓okE_Meth, ↓okE_Make, okFs_ins, ↓okE_Fld, okT_str, ↓okE_Txt, ↓okE_Cel, okRS_str, ↓okE_RevS, ↓okE_RevL, ↓okE_RevT, tupRev_tup, rev_two, bitsD_int, b_gcd_int, b_comb_ok, b_tuple_tup, b_tuple_lst, b_str_str, b_str_int, addD_lst, addD_tup, catD_lst, repD_lst, mulD_lst, k_zip_lst, k_rev_lst, b_list_lst, b_list_tup, okSl_nn, okSl_in, okSl_ni, okSl_ii, ↓okE_Sl, ↓okE_No, okBd_int, ↓okE_Bd, ↓okE_iL, ↓okE_iT, ↓okE_iS, ↓okE_iA, okC_lst, ↓okE_Comp, okMu_some, ↓okE_Mut, ↓seqK_nx, ↓seqK_rt, ↓seqK_ex, ↓seqK_bk, ↓seqK_ct, ↓okS_Seq, ↓okS_Next, ↓okS_Dead, ↓okS_Brk, ↓okS_Ct, ↓okS_RetN, ↓okS_Raise, ↓okS_Ret, ↓okS_Expr, ↓okS_Set, ↓okS_Par, ↓okS_Aug, ↓okS_Asg, ↓okS_If, okX_some, okZ_int, ↓okS_Sub, okFp_ins, ↓okS_Fld, ↓retK_nx, ↓retK_rt, ↓retK_ex, ↓okF_run, okF_val, okF_exc, ↓lpK_nx, ↓lpK_ct, ↓lpK_bk, ↓lpK_rt, ↓lpK_ex, ↓okS_For, List.getElem?_cons_zero, List.getElem?_cons_succ, List.set_cons_zero, List.set_cons_succ, List.map_cons, List.map_nil, List.length_cons, List.length_nil, List.replicate_succ, List.replicate_zero, List.cons_append, List.nil_append, Option.join_some, Option.getD_some, Option.bind_some, Option.map_some, stD_cons, stD_nil, tgtD_nm, tgtD_tp, tgtsD_nil, tgtsD_cons, argD_full, argD_own, argD_root, argD_cel, argD_nil, putC_full, putC_own, putC_root, putC_cel, putC_nil, outs_t, outs_f, outs_nil, subD_int, addD_int, subI_int, addI_int, mulD_ok, modD_ok, divD_ok, pow1018, pow1015, powD_ok, shlD_ok, shrD_ok, addD_str, mulD_str, b_sum_2, b_len_str, b_len_lst, b_len_tup, k_enumT_str, k_enum_lst, okMu_app, okMu_ext, okL_rng1, okL_rng2, andD_int, xorD_int, negD_int, ltD_int, leD_int, gtD_int, geD_int, eqD_int, eqD_str, eqD_bl, neD_int, neD_str, neD_bl, ixL_0, ixL_1, ixL_2, ixL_3, ixT_0, ixT_1, ixT_2, ixT_3, ixN_0, ixN_1, ixN_2, ixN_3, isD_non, isntD_non, isN, b_int_int, b_int_bl, b_max2_int, b_min2_int, b_abs_int, m_count_str, listD_lst, listD_slst, tupD, strD, decide_eq_true_eq, decide_eq_false_iff_not, decide_true, decide_false, eq_self, and_true, true_and, if_true, if_false, Bool.false_eq_true, ↓reduceIte, Nat.reduceAdd, Nat.reduceSub, Nat.reduceLT, ite_true, ite_false, Bool.not_true, Bool.not_false, Int.toNat_natCast, Int.reduceLT, Int.reduceLE, Int.reduceToNat, Int.reduceMul, Int.reduceAdd, Int.reduceSub, Int.reduceEq, Nat.reduceLeDiff, Nat.reduceMul, List.lookup_cons_self, check_bits_eq (show n ≤ 100 by omega) (show m ≤ 100 by omega) h, check_cell_eq (show n ≤ 100 by omega) (show m ≤ 100 by omega) h1 h2, check_cell_eq (show n ≤ 100 by omega) (show m ≤ 100 by omega) h3 h4, g1, g3, g4, g5, ei, ej, x_ahead_eq hn hm (show n - 1 - i < n by omega) (show m - 1 - j < m by omega)]
      exact cb
  · have g1 : ¬ (x1 : Int) ≥ x2 := by omega
    have g3 : (x1 : Int) ≤ x2 := by omega
    have g4 : (y1 : Int) ≤ y2 := by omega
    have ev := ahead_all hn hm h1 h2 h3 h4 (by omega) (by omega) (by omega)
    rw [ev]
    simp (dsimp := false) only [↓okE_ok, ↓okE_ex, ↓okA_ok, ↓okA_ex, ↓okS_some, okD_some, okN_some, okL_some, okG_some, ↓okE_bind, ↓okE_aBind, ↓okS_bind, ↓okS_aBind, ↓okE_lift, ↓okE_V, ↓okE_C, ↓okE_1, ↓okE_2, ↓okA_nil, ↓okA_cons, ↓okE_B, ↓okE_Tup, ↓okE_Lst, tE2_bl, ↓okE_If, ↓okE_And, ↓okE_Or, nE_bl, ↓okE_Not, okB_some, ↓okE_Tru, cE_bl, ↓okE_Chain, ↓okE_Chain3, ↓okE_callR, ↓okE_Call, okI_ins, ↓okE_Prop, ↓okE_Meth, ↓okE_Make, okFs_ins, ↓okE_Fld, okT_str, ↓okE_Txt, ↓okE_Cel, okRS_str, ↓okE_RevS, ↓okE_RevL, ↓okE_RevT, tupRev_tup, rev_two, bitsD_int, b_gcd_int, b_comb_ok, b_tuple_tup, b_tuple_lst, b_str_str, b_str_int, addD_lst, addD_tup, catD_lst, repD_lst, mulD_lst, k_zip_lst, k_rev_lst, b_list_lst, b_list_tup, okSl_nn, okSl_in, okSl_ni, okSl_ii, ↓okE_Sl, ↓okE_No, okBd_int, ↓okE_Bd, ↓okE_iL, ↓okE_iT, ↓okE_iS, ↓okE_iA, okC_lst, ↓okE_Comp, okMu_some, ↓okE_Mut, ↓seqK_nx, ↓seqK_rt, ↓seqK_ex, ↓seqK_bk, ↓seqK_ct, ↓okS_Seq, ↓okS_Next, ↓okS_Dead, ↓okS_Brk, ↓okS_Ct, ↓okS_RetN, ↓okS_Raise, ↓okS_Ret, ↓okS_Expr, ↓okS_Set, ↓okS_Par, ↓okS_Aug, ↓okS_Asg, ↓okS_If, okX_some, okZ_int, ↓okS_Sub, okFp_ins, ↓okS_Fld, ↓retK_nx, ↓retK_rt, ↓retK_ex, ↓okF_run, okF_val, okF_exc, ↓lpK_nx, ↓lpK_ct, ↓lpK_bk, ↓lpK_rt, ↓lpK_ex, ↓okS_For, List.getElem?_cons_zero, List.getElem?_cons_succ, List.set_cons_zero, List.set_cons_succ, List.map_cons, List.map_nil, List.length_cons, List.length_nil, List.replicate_succ, List.replicate_zero, List.cons_append, List.nil_append, Option.join_some, Option.getD_some, Option.bind_some, Option.map_some, stD_cons, stD_nil, tgtD_nm, tgtD_tp, tgtsD_nil, tgtsD_cons, argD_full, argD_own, argD_root, argD_cel, argD_nil, putC_full, putC_own, putC_root, putC_cel, putC_nil, outs_t, outs_f, outs_nil, subD_int, addD_int, subI_int, addI_int, mulD_ok, modD_ok, divD_ok, pow1018, pow1015, powD_ok, shlD_ok, shrD_ok, addD_str, mulD_str, b_sum_2, b_len_str, b_len_lst, b_len_tup, k_enumT_str, k_enum_lst, okMu_app, okMu_ext, okL_rng1, okL_rng2, andD_int, xorD_int, negD_int, ltD_int, leD_int, gtD_int, geD_int, eqD_int, eqD_str, eqD_bl, neD_int, neD_str, neD_bl, ixL_0, ixL_1, ixL_2, ixL_3, ixT_0, ixT_1, ixT_2, ixT_3, ixN_0, ixN_1, ixN_2, ixN_3, isD_non, isntD_non, isN, b_int_int, b_int_bl, b_max2_int, b_min2_int, b_abs_int, m_count_str, listD_lst, listD_slst, tupD, strD, decide_eq_true_eq, decide_eq_false_iff_not, decide_true, decide_false, eq_self, and_true, true_and, if_true, if_false, Bool.false_eq_true, ↓reduceIte, Nat.reduceAdd, Nat.reduceSub, Nat.reduceLT, ite_true, ite_false, Bool.not_true, Bool.not_false, Int.toNat_natCast, Int.reduceLT, Int.reduceLE, Int.reduceToNat, Int.reduceMul, Int.reduceAdd, Int.reduceSub, Int.reduceEq, Nat.reduceLeDiff, Nat.reduceMul, List.lookup_cons_self, check_bits_eq (show n ≤ 100 by omega) (show m ≤ 100 by omega) h, check_cell_eq (show n ≤ 100 by omega) (show m ≤ 100 by omega) h1 h2, check_cell_eq (show n ≤ 100 by omega) (show m ≤ 100 by omega) h3 h4, g1, g3, g4]
    exact cb)
theorem law_right_eq {n m x1 y1 x2 y2 : Nat} (hn : n < 5) (hm : m < 5) (h : 1 ≤ n + m) (h1 : x1 < 2 ^ n) (h2 : y1 < 2 ^ m) (h3 : x2 < 2 ^ n) (h4 : y2 < 2 ^ m) : fn_law_right [.int n, .int m, .tup [.int x1, .int y1], .tup [.int x2, .int y2]] = some (.ok (.bl true) [.int n, .int m, .tup [.int x1, .int y1], .tup [.int x2, .int y2]]) := eqF (by
  obtain ⟨s, es⟩ := (pl_nat (i := aheadN n m x1 y1 x2 y2) (by
    have : aheadN n m x1 y1 x2 y2 ≤ 100 := Nat.le_trans List.countP_le_length (words_small n hn m hm).2.2
    exact Nat.lt_of_le_of_lt this (Nat.lt_of_lt_of_le (show 100 < 2 ^ 7 by decide) (Nat.pow_le_pow_right (by decide) (by decide))))).repr (by omega) (by omega)
  unfold fn_law_right
  simp (dsimp := false) only [↓okE_ok, ↓okE_ex, ↓okA_ok, ↓okA_ex, ↓okS_some, okD_some, okN_some, okL_some, okG_some, ↓okE_bind, ↓okE_aBind, ↓okS_bind, ↓okS_aBind, ↓okE_lift, ↓okE_V, ↓okE_C, ↓okE_1, ↓okE_2, ↓okA_nil, ↓okA_cons, ↓okE_B, ↓okE_Tup, ↓okE_Lst, tE2_bl, ↓okE_If, ↓okE_And, ↓okE_Or, nE_bl, ↓okE_Not, okB_some, ↓okE_Tru, cE_bl, ↓okE_Chain, ↓okE_Chain3, ↓okE_callR, ↓okE_Call, okI_ins, ↓okE_Prop, ↓okE_Meth, ↓okE_Make, okFs_ins, ↓okE_Fld, okT_str, ↓okE_Txt, ↓okE_Cel, okRS_str, ↓okE_RevS, ↓okE_RevL, ↓okE_RevT, tupRev_tup, rev_two, bitsD_int, b_gcd_int, b_comb_ok, b_tuple_tup, b_tuple_lst, b_str_str, b_str_int, addD_lst, addD_tup, catD_lst, repD_lst, mulD_lst, k_zip_lst, k_rev_lst, b_list_lst, b_list_tup, okSl_nn, okSl_in, okSl_ni, okSl_ii, ↓okE_Sl, ↓okE_No, okBd_int, ↓okE_Bd, ↓okE_iL, ↓okE_iT, ↓okE_iS, ↓okE_iA, okC_lst, ↓okE_Comp, okMu_some, ↓okE_Mut, ↓seqK_nx, ↓seqK_rt, ↓seqK_ex, ↓seqK_bk, ↓seqK_ct, ↓okS_Seq, ↓okS_Next, ↓okS_Dead, ↓okS_Brk, ↓okS_Ct, ↓okS_RetN, ↓okS_Raise, ↓okS_Ret, ↓okS_Expr, ↓okS_Set, ↓okS_Par, ↓okS_Aug, ↓okS_Asg, ↓okS_If, okX_some, okZ_int, ↓okS_Sub, okFp_ins, ↓okS_Fld, ↓retK_nx, ↓retK_rt, ↓retK_ex, ↓okF_run, okF_val, okF_exc, ↓lpK_nx, ↓lpK_ct, ↓lpK_bk, ↓lpK_rt, ↓lpK_ex, ↓okS_For, List.getElem?_cons_zero, List.getElem?_cons_succ, List.set_cons_zero, List.set_cons_succ, List.map_cons, List.map_nil, List.length_cons, List.length_nil, List.replicate_succ, List.replicate_zero, List.cons_append, List.nil_append, Option.join_some, Option.getD_some, Option.bind_some, Option.map_some, stD_cons, stD_nil, tgtD_nm, tgtD_tp, tgtsD_nil, tgtsD_cons, argD_full, argD_own, argD_root, argD_cel, argD_nil, putC_full, putC_own, putC_root, putC_cel, putC_nil, outs_t, outs_f, outs_nil, subD_int, addD_int, subI_int, addI_int, mulD_ok, modD_ok, divD_ok, pow1018, pow1015, powD_ok, shlD_ok, shrD_ok, addD_str, mulD_str, b_sum_2, b_len_str, b_len_lst, b_len_tup, k_enumT_str, k_enum_lst, okMu_app, okMu_ext, okL_rng1, okL_rng2, andD_int, xorD_int, negD_int, ltD_int, leD_int, gtD_int, geD_int, eqD_int, eqD_str, eqD_bl, neD_int, neD_str, neD_bl, ixL_0, ixL_1, ixL_2, ixL_3, ixT_0, ixT_1, ixT_2, ixT_3, ixN_0, ixN_1, ixN_2, ixN_3, isD_non, isntD_non, isN, b_int_int, b_int_bl, b_max2_int, b_min2_int, b_abs_int, m_count_str, listD_lst, listD_slst, tupD, strD, decide_eq_true_eq, decide_eq_false_iff_not, decide_true, decide_false, eq_self, and_true, true_and, if_true, if_false, Bool.false_eq_true, ↓reduceIte, Nat.reduceAdd, Nat.reduceSub, Nat.reduceLT, ite_true, ite_false, Bool.not_true, Bool.not_false, Int.toNat_natCast, Int.reduceLT, Int.reduceLE, Int.reduceToNat, Int.reduceMul, Int.reduceAdd, Int.reduceSub, Int.reduceEq, Nat.reduceLeDiff, Nat.reduceMul, List.lookup_cons_self, law_words_eq hn hm]
  refine loop_acc (enc := wD) (xs0 := wordsT n m (n + m)) (fun don ρ => ∃ y5 : Option D, ρ = [some (.int n), some (.int m), some (.tup [.int x1, .int y1]), some (.tup [.int x2, .int y2]), some (.int (don.countP fun w => decide (keyL w x1 y1 < keyL w x2 y2) : Nat)), y5]) ?_ ?_ ⟨none, rfl⟩
  · rintro don w rest ρ hx ⟨y5, rfl⟩
    simp (dsimp := false) only [↓okE_ok, ↓okE_ex, ↓okA_ok, ↓okA_ex, ↓okS_some, okD_some, okN_some, okL_some, okG_some, ↓okE_bind, ↓okE_aBind, ↓okS_bind, ↓okS_aBind, ↓okE_lift, ↓okE_V, ↓okE_C, ↓okE_1, ↓okE_2, ↓okA_nil, ↓okA_cons, ↓okE_B, ↓okE_Tup, ↓okE_Lst, tE2_bl, ↓okE_If, ↓okE_And, ↓okE_Or, nE_bl, ↓okE_Not, okB_some, ↓okE_Tru, cE_bl, ↓okE_Chain, ↓okE_Chain3, ↓okE_callR, ↓okE_Call, okI_ins, ↓okE_Prop, ↓okE_Meth, ↓okE_Make, okFs_ins, ↓okE_Fld, okT_str, ↓okE_Txt, ↓okE_Cel, okRS_str, ↓okE_RevS, ↓okE_RevL, ↓okE_RevT, tupRev_tup, rev_two, bitsD_int, b_gcd_int, b_comb_ok, b_tuple_tup, b_tuple_lst, b_str_str, b_str_int, addD_lst, addD_tup, catD_lst, repD_lst, mulD_lst, k_zip_lst, k_rev_lst, b_list_lst, b_list_tup, okSl_nn, okSl_in, okSl_ni, okSl_ii, ↓okE_Sl, ↓okE_No, okBd_int, ↓okE_Bd, ↓okE_iL, ↓okE_iT, ↓okE_iS, ↓okE_iA, okC_lst, ↓okE_Comp, okMu_some, ↓okE_Mut, ↓seqK_nx, ↓seqK_rt, ↓seqK_ex, ↓seqK_bk, ↓seqK_ct, ↓okS_Seq, ↓okS_Next, ↓okS_Dead, ↓okS_Brk, ↓okS_Ct, ↓okS_RetN, ↓okS_Raise, ↓okS_Ret, ↓okS_Expr, ↓okS_Set, ↓okS_Par, ↓okS_Aug, ↓okS_Asg, ↓okS_If, okX_some, okZ_int, ↓okS_Sub, okFp_ins, ↓okS_Fld, ↓retK_nx, ↓retK_rt, ↓retK_ex, ↓okF_run, okF_val, okF_exc, ↓lpK_nx, ↓lpK_ct, ↓lpK_bk, ↓lpK_rt, ↓lpK_ex, ↓okS_For, List.getElem?_cons_zero, List.getElem?_cons_succ, List.set_cons_zero, List.set_cons_succ, List.map_cons, List.map_nil, List.length_cons, List.length_nil, List.replicate_succ, List.replicate_zero, List.cons_append, List.nil_append, Option.join_some, Option.getD_some, Option.bind_some, Option.map_some, stD_cons, stD_nil, tgtD_nm, tgtD_tp, tgtsD_nil, tgtsD_cons, argD_full, argD_own, argD_root, argD_cel, argD_nil, putC_full, putC_own, putC_root, putC_cel, putC_nil, outs_t, outs_f, outs_nil, subD_int, addD_int, subI_int, addI_int, mulD_ok, modD_ok, divD_ok, pow1018, pow1015, powD_ok, shlD_ok, shrD_ok, addD_str, mulD_str, b_sum_2, b_len_str, b_len_lst, b_len_tup, k_enumT_str, k_enum_lst, okMu_app, okMu_ext, okL_rng1, okL_rng2, andD_int, xorD_int, negD_int, ltD_int, leD_int, gtD_int, geD_int, eqD_int, eqD_str, eqD_bl, neD_int, neD_str, neD_bl, ixL_0, ixL_1, ixL_2, ixL_3, ixT_0, ixT_1, ixT_2, ixT_3, ixN_0, ixN_1, ixN_2, ixN_3, isD_non, isntD_non, isN, b_int_int, b_int_bl, b_max2_int, b_min2_int, b_abs_int, m_count_str, listD_lst, listD_slst, tupD, strD, decide_eq_true_eq, decide_eq_false_iff_not, decide_true, decide_false, eq_self, and_true, true_and, if_true, if_false, Bool.false_eq_true, ↓reduceIte, Nat.reduceAdd, Nat.reduceSub, Nat.reduceLT, ite_true, ite_false, Bool.not_true, Bool.not_false, Int.toNat_natCast, Int.reduceLT, Int.reduceLE, Int.reduceToNat, Int.reduceMul, Int.reduceAdd, Int.reduceSub, Int.reduceEq, Nat.reduceLeDiff, Nat.reduceMul, List.lookup_cons_self, key_eq, Int.ofNat_lt]
    rw [List.countP_append, List.countP_cons, List.countP_nil]
    by_cases hk : keyL w x1 y1 < keyL w x2 y2
    · rw [if_pos hk, if_pos (decide_eq_true hk), Nat.zero_add, Int.natCast_add]
      exact ⟨_, rfl⟩
    · rw [if_neg hk, if_neg (by rw [decide_eq_false hk]; decide), Nat.zero_add, Nat.add_zero, Int.add_zero]
      exact ⟨_, rfl⟩
  · rintro ρ ⟨y5, rfl⟩
    rw [show (wordsT n m (n + m)).countP (fun w => decide (keyL w x1 y1 < keyL w x2 y2)) = aheadN n m x1 y1 x2 y2 from rfl]
    simp (dsimp := false) only [↓okE_ok, ↓okE_ex, ↓okA_ok, ↓okA_ex, ↓okS_some, okD_some, okN_some, okL_some, okG_some, ↓okE_bind, ↓okE_aBind, ↓okS_bind, ↓okS_aBind, ↓okE_lift, ↓okE_V, ↓okE_C, ↓okE_1, ↓okE_2, ↓okA_nil, ↓okA_cons, ↓okE_B, ↓okE_Tup, ↓okE_Lst, tE2_bl, ↓okE_If, ↓okE_And, ↓okE_Or, nE_bl, ↓okE_Not, okB_some, ↓okE_Tru, cE_bl, ↓okE_Chain, ↓okE_Chain3, ↓okE_callR, ↓okE_Call, okI_ins, ↓okE_Prop, ↓okE_Meth, ↓okE_Make, okFs_ins, ↓okE_Fld, okT_str, ↓okE_Txt, ↓okE_Cel, okRS_str, ↓okE_RevS, ↓okE_RevL, ↓okE_RevT, tupRev_tup, rev_two, bitsD_int, b_gcd_int, b_comb_ok, b_tuple_tup, b_tuple_lst, b_str_str, b_str_int, addD_lst, addD_tup, catD_lst, repD_lst, mulD_lst, k_zip_lst, k_rev_lst, b_list_lst, b_list_tup, okSl_nn, okSl_in, okSl_ni, okSl_ii, ↓okE_Sl, ↓okE_No, okBd_int, ↓okE_Bd, ↓okE_iL, ↓okE_iT, ↓okE_iS, ↓okE_iA, okC_lst, ↓okE_Comp, okMu_some, ↓okE_Mut, ↓seqK_nx, ↓seqK_rt, ↓seqK_ex, ↓seqK_bk, ↓seqK_ct, ↓okS_Seq, ↓okS_Next, ↓okS_Dead, ↓okS_Brk, ↓okS_Ct, ↓okS_RetN, ↓okS_Raise, ↓okS_Ret, ↓okS_Expr, ↓okS_Set, ↓okS_Par, ↓okS_Aug, ↓okS_Asg, ↓okS_If, okX_some, okZ_int, ↓okS_Sub, okFp_ins, ↓okS_Fld, ↓retK_nx, ↓retK_rt, ↓retK_ex, ↓okF_run, okF_val, okF_exc, ↓lpK_nx, ↓lpK_ct, ↓lpK_bk, ↓lpK_rt, ↓lpK_ex, ↓okS_For, List.getElem?_cons_zero, List.getElem?_cons_succ, List.set_cons_zero, List.set_cons_succ, List.map_cons, List.map_nil, List.length_cons, List.length_nil, List.replicate_succ, List.replicate_zero, List.cons_append, List.nil_append, Option.join_some, Option.getD_some, Option.bind_some, Option.map_some, stD_cons, stD_nil, tgtD_nm, tgtD_tp, tgtsD_nil, tgtsD_cons, argD_full, argD_own, argD_root, argD_cel, argD_nil, putC_full, putC_own, putC_root, putC_cel, putC_nil, outs_t, outs_f, outs_nil, subD_int, addD_int, subI_int, addI_int, mulD_ok, modD_ok, divD_ok, pow1018, pow1015, powD_ok, shlD_ok, shrD_ok, addD_str, mulD_str, b_sum_2, b_len_str, b_len_lst, b_len_tup, k_enumT_str, k_enum_lst, okMu_app, okMu_ext, okL_rng1, okL_rng2, andD_int, xorD_int, negD_int, ltD_int, leD_int, gtD_int, geD_int, eqD_int, eqD_str, eqD_bl, neD_int, neD_str, neD_bl, ixL_0, ixL_1, ixL_2, ixL_3, ixT_0, ixT_1, ixT_2, ixT_3, ixN_0, ixN_1, ixN_2, ixN_3, isD_non, isntD_non, isN, b_int_int, b_int_bl, b_max2_int, b_min2_int, b_abs_int, m_count_str, listD_lst, listD_slst, tupD, strD, decide_eq_true_eq, decide_eq_false_iff_not, decide_true, decide_false, eq_self, and_true, true_and, if_true, if_false, Bool.false_eq_true, ↓reduceIte, Nat.reduceAdd, Nat.reduceSub, Nat.reduceLT, ite_true, ite_false, Bool.not_true, Bool.not_false, Int.toNat_natCast, Int.reduceLT, Int.reduceLE, Int.reduceToNat, Int.reduceMul, Int.reduceAdd, Int.reduceSub, Int.reduceEq, Nat.reduceLeDiff, Nat.reduceMul, List.lookup_cons_self, count_ahead_eq hn hm h h1 h2 h3 h4, es])
theorem some_cell_ok {n m : Nat} {d : D} (B : Bg d) (hn : n < 5) (hm : m < 5) (q : ∀ x y : Nat, x < 2 ^ n → y < 2 ^ m → ∀ d', Bg d' → QF (.tup [.int x, .int y]) [d', .int n, .int m]) : OkF (fn_law_some_cell [d, .int n, .int m]) QF XF := by
  have pn := two_pos n
  have pm := two_pos m
  have ln := p2_100 (show n ≤ 100 by omega)
  have lm := p2_100 (show m ≤ 100 by omega)
  unfold fn_law_some_cell
  simp (dsimp := false) only [↓okE_ok, ↓okE_ex, ↓okA_ok, ↓okA_ex, ↓okS_some, okD_some, okN_some, okL_some, okG_some, ↓okE_bind, ↓okE_aBind, ↓okS_bind, ↓okS_aBind, ↓okE_lift, ↓okE_V, ↓okE_C, ↓okE_1, ↓okE_2, ↓okA_nil, ↓okA_cons, ↓okE_B, ↓okE_Tup, ↓okE_Lst, tE2_bl, ↓okE_If, ↓okE_And, ↓okE_Or, nE_bl, ↓okE_Not, okB_some, ↓okE_Tru, cE_bl, ↓okE_Chain, ↓okE_Chain3, ↓okE_callR, ↓okE_Call, okI_ins, ↓okE_Prop, ↓okE_Meth, ↓okE_Make, okFs_ins, ↓okE_Fld, okT_str, ↓okE_Txt, ↓okE_Cel, okRS_str, ↓okE_RevS, ↓okE_RevL, ↓okE_RevT, tupRev_tup, rev_two, bitsD_int, b_gcd_int, b_comb_ok, b_tuple_tup, b_tuple_lst, b_str_str, b_str_int, addD_lst, addD_tup, catD_lst, repD_lst, mulD_lst, k_zip_lst, k_rev_lst, b_list_lst, b_list_tup, okSl_nn, okSl_in, okSl_ni, okSl_ii, ↓okE_Sl, ↓okE_No, okBd_int, ↓okE_Bd, ↓okE_iL, ↓okE_iT, ↓okE_iS, ↓okE_iA, okC_lst, ↓okE_Comp, okMu_some, ↓okE_Mut, ↓seqK_nx, ↓seqK_rt, ↓seqK_ex, ↓seqK_bk, ↓seqK_ct, ↓okS_Seq, ↓okS_Next, ↓okS_Dead, ↓okS_Brk, ↓okS_Ct, ↓okS_RetN, ↓okS_Raise, ↓okS_Ret, ↓okS_Expr, ↓okS_Set, ↓okS_Par, ↓okS_Aug, ↓okS_Asg, ↓okS_If, okX_some, okZ_int, ↓okS_Sub, okFp_ins, ↓okS_Fld, ↓retK_nx, ↓retK_rt, ↓retK_ex, ↓okF_run, okF_val, okF_exc, ↓lpK_nx, ↓lpK_ct, ↓lpK_bk, ↓lpK_rt, ↓lpK_ex, ↓okS_For, List.getElem?_cons_zero, List.getElem?_cons_succ, List.set_cons_zero, List.set_cons_succ, List.map_cons, List.map_nil, List.length_cons, List.length_nil, List.replicate_succ, List.replicate_zero, List.cons_append, List.nil_append, Option.join_some, Option.getD_some, Option.bind_some, Option.map_some, stD_cons, stD_nil, tgtD_nm, tgtD_tp, tgtsD_nil, tgtsD_cons, argD_full, argD_own, argD_root, argD_cel, argD_nil, putC_full, putC_own, putC_root, putC_cel, putC_nil, outs_t, outs_f, outs_nil, subD_int, addD_int, subI_int, addI_int, mulD_ok, modD_ok, divD_ok, pow1018, pow1015, powD_ok, shrD_ok, addD_str, mulD_str, b_sum_2, b_len_str, b_len_lst, b_len_tup, k_enumT_str, k_enum_lst, okMu_app, okMu_ext, okL_rng1, okL_rng2, andD_int, xorD_int, negD_int, ltD_int, leD_int, gtD_int, geD_int, eqD_int, eqD_str, eqD_bl, neD_int, neD_str, neD_bl, ixL_0, ixL_1, ixL_2, ixL_3, ixT_0, ixT_1, ixT_2, ixT_3, ixN_0, ixN_1, ixN_2, ixN_3, isD_non, isntD_non, isN, b_int_int, b_int_bl, b_max2_int, b_min2_int, b_abs_int, m_count_str, listD_lst, listD_slst, tupD, strD, decide_eq_true_eq, decide_eq_false_iff_not, decide_true, decide_false, eq_self, and_true, true_and, if_true, if_false, Bool.false_eq_true, ↓reduceIte, Nat.reduceAdd, Nat.reduceSub, Nat.reduceLT, ite_true, ite_false, Bool.not_true, Bool.not_false, Int.toNat_natCast, Int.reduceLT, Int.reduceLE, Int.reduceToNat, Int.reduceMul, Int.reduceAdd, Int.reduceSub, Int.reduceEq, Nat.reduceLeDiff, Nat.reduceMul, List.lookup_cons_self, shl1_nat (show n ≤ 1000 by omega)]
  refine pick_bg B (by omega) (by omega) fun x hx d1 B1 => ?_
  simp (dsimp := false) only [↓okE_ok, ↓okE_ex, ↓okA_ok, ↓okA_ex, ↓okS_some, okD_some, okN_some, okL_some, okG_some, ↓okE_bind, ↓okE_aBind, ↓okS_bind, ↓okS_aBind, ↓okE_lift, ↓okE_V, ↓okE_C, ↓okE_1, ↓okE_2, ↓okA_nil, ↓okA_cons, ↓okE_B, ↓okE_Tup, ↓okE_Lst, tE2_bl, ↓okE_If, ↓okE_And, ↓okE_Or, nE_bl, ↓okE_Not, okB_some, ↓okE_Tru, cE_bl, ↓okE_Chain, ↓okE_Chain3, ↓okE_callR, ↓okE_Call, okI_ins, ↓okE_Prop, ↓okE_Meth, ↓okE_Make, okFs_ins, ↓okE_Fld, okT_str, ↓okE_Txt, ↓okE_Cel, okRS_str, ↓okE_RevS, ↓okE_RevL, ↓okE_RevT, tupRev_tup, rev_two, bitsD_int, b_gcd_int, b_comb_ok, b_tuple_tup, b_tuple_lst, b_str_str, b_str_int, addD_lst, addD_tup, catD_lst, repD_lst, mulD_lst, k_zip_lst, k_rev_lst, b_list_lst, b_list_tup, okSl_nn, okSl_in, okSl_ni, okSl_ii, ↓okE_Sl, ↓okE_No, okBd_int, ↓okE_Bd, ↓okE_iL, ↓okE_iT, ↓okE_iS, ↓okE_iA, okC_lst, ↓okE_Comp, okMu_some, ↓okE_Mut, ↓seqK_nx, ↓seqK_rt, ↓seqK_ex, ↓seqK_bk, ↓seqK_ct, ↓okS_Seq, ↓okS_Next, ↓okS_Dead, ↓okS_Brk, ↓okS_Ct, ↓okS_RetN, ↓okS_Raise, ↓okS_Ret, ↓okS_Expr, ↓okS_Set, ↓okS_Par, ↓okS_Aug, ↓okS_Asg, ↓okS_If, okX_some, okZ_int, ↓okS_Sub, okFp_ins, ↓okS_Fld, ↓retK_nx, ↓retK_rt, ↓retK_ex, ↓okF_run, okF_val, okF_exc, ↓lpK_nx, ↓lpK_ct, ↓lpK_bk, ↓lpK_rt, ↓lpK_ex, ↓okS_For, List.getElem?_cons_zero, List.getElem?_cons_succ, List.set_cons_zero, List.set_cons_succ, List.map_cons, List.map_nil, List.length_cons, List.length_nil, List.replicate_succ, List.replicate_zero, List.cons_append, List.nil_append, Option.join_some, Option.getD_some, Option.bind_some, Option.map_some, stD_cons, stD_nil, tgtD_nm, tgtD_tp, tgtsD_nil, tgtsD_cons, argD_full, argD_own, argD_root, argD_cel, argD_nil, putC_full, putC_own, putC_root, putC_cel, putC_nil, outs_t, outs_f, outs_nil, subD_int, addD_int, subI_int, addI_int, mulD_ok, modD_ok, divD_ok, pow1018, pow1015, powD_ok, shrD_ok, addD_str, mulD_str, b_sum_2, b_len_str, b_len_lst, b_len_tup, k_enumT_str, k_enum_lst, okMu_app, okMu_ext, okL_rng1, okL_rng2, andD_int, xorD_int, negD_int, ltD_int, leD_int, gtD_int, geD_int, eqD_int, eqD_str, eqD_bl, neD_int, neD_str, neD_bl, ixL_0, ixL_1, ixL_2, ixL_3, ixT_0, ixT_1, ixT_2, ixT_3, ixN_0, ixN_1, ixN_2, ixN_3, isD_non, isntD_non, isN, b_int_int, b_int_bl, b_max2_int, b_min2_int, b_abs_int, m_count_str, listD_lst, listD_slst, tupD, strD, decide_eq_true_eq, decide_eq_false_iff_not, decide_true, decide_false, eq_self, and_true, true_and, if_true, if_false, Bool.false_eq_true, ↓reduceIte, Nat.reduceAdd, Nat.reduceSub, Nat.reduceLT, ite_true, ite_false, Bool.not_true, Bool.not_false, Int.toNat_natCast, Int.reduceLT, Int.reduceLE, Int.reduceToNat, Int.reduceMul, Int.reduceAdd, Int.reduceSub, Int.reduceEq, Nat.reduceLeDiff, Nat.reduceMul, List.lookup_cons_self, shl1_nat (show m ≤ 1000 by omega)]
  refine pick_bg B1 (by omega) (by omega) fun y hy d2 B2 => ?_
  simp (dsimp := false) only [↓okE_ok, ↓okE_ex, ↓okA_ok, ↓okA_ex, ↓okS_some, okD_some, okN_some, okL_some, okG_some, ↓okE_bind, ↓okE_aBind, ↓okS_bind, ↓okS_aBind, ↓okE_lift, ↓okE_V, ↓okE_C, ↓okE_1, ↓okE_2, ↓okA_nil, ↓okA_cons, ↓okE_B, ↓okE_Tup, ↓okE_Lst, tE2_bl, ↓okE_If, ↓okE_And, ↓okE_Or, nE_bl, ↓okE_Not, okB_some, ↓okE_Tru, cE_bl, ↓okE_Chain, ↓okE_Chain3, ↓okE_callR, ↓okE_Call, okI_ins, ↓okE_Prop, ↓okE_Meth, ↓okE_Make, okFs_ins, ↓okE_Fld, okT_str, ↓okE_Txt, ↓okE_Cel, okRS_str, ↓okE_RevS, ↓okE_RevL, ↓okE_RevT, tupRev_tup, rev_two, bitsD_int, b_gcd_int, b_comb_ok, b_tuple_tup, b_tuple_lst, b_str_str, b_str_int, addD_lst, addD_tup, catD_lst, repD_lst, mulD_lst, k_zip_lst, k_rev_lst, b_list_lst, b_list_tup, okSl_nn, okSl_in, okSl_ni, okSl_ii, ↓okE_Sl, ↓okE_No, okBd_int, ↓okE_Bd, ↓okE_iL, ↓okE_iT, ↓okE_iS, ↓okE_iA, okC_lst, ↓okE_Comp, okMu_some, ↓okE_Mut, ↓seqK_nx, ↓seqK_rt, ↓seqK_ex, ↓seqK_bk, ↓seqK_ct, ↓okS_Seq, ↓okS_Next, ↓okS_Dead, ↓okS_Brk, ↓okS_Ct, ↓okS_RetN, ↓okS_Raise, ↓okS_Ret, ↓okS_Expr, ↓okS_Set, ↓okS_Par, ↓okS_Aug, ↓okS_Asg, ↓okS_If, okX_some, okZ_int, ↓okS_Sub, okFp_ins, ↓okS_Fld, ↓retK_nx, ↓retK_rt, ↓retK_ex, ↓okF_run, okF_val, okF_exc, ↓lpK_nx, ↓lpK_ct, ↓lpK_bk, ↓lpK_rt, ↓lpK_ex, ↓okS_For, List.getElem?_cons_zero, List.getElem?_cons_succ, List.set_cons_zero, List.set_cons_succ, List.map_cons, List.map_nil, List.length_cons, List.length_nil, List.replicate_succ, List.replicate_zero, List.cons_append, List.nil_append, Option.join_some, Option.getD_some, Option.bind_some, Option.map_some, stD_cons, stD_nil, tgtD_nm, tgtD_tp, tgtsD_nil, tgtsD_cons, argD_full, argD_own, argD_root, argD_cel, argD_nil, putC_full, putC_own, putC_root, putC_cel, putC_nil, outs_t, outs_f, outs_nil, subD_int, addD_int, subI_int, addI_int, mulD_ok, modD_ok, divD_ok, pow1018, pow1015, powD_ok, shlD_ok, shrD_ok, addD_str, mulD_str, b_sum_2, b_len_str, b_len_lst, b_len_tup, k_enumT_str, k_enum_lst, okMu_app, okMu_ext, okL_rng1, okL_rng2, andD_int, xorD_int, negD_int, ltD_int, leD_int, gtD_int, geD_int, eqD_int, eqD_str, eqD_bl, neD_int, neD_str, neD_bl, ixL_0, ixL_1, ixL_2, ixL_3, ixT_0, ixT_1, ixT_2, ixT_3, ixN_0, ixN_1, ixN_2, ixN_3, isD_non, isntD_non, isN, b_int_int, b_int_bl, b_max2_int, b_min2_int, b_abs_int, m_count_str, listD_lst, listD_slst, tupD, strD, decide_eq_true_eq, decide_eq_false_iff_not, decide_true, decide_false, eq_self, and_true, true_and, if_true, if_false, Bool.false_eq_true, ↓reduceIte, Nat.reduceAdd, Nat.reduceSub, Nat.reduceLT, ite_true, ite_false, Bool.not_true, Bool.not_false, Int.toNat_natCast, Int.reduceLT, Int.reduceLE, Int.reduceToNat, Int.reduceMul, Int.reduceAdd, Int.reduceSub, Int.reduceEq, Nat.reduceLeDiff, Nat.reduceMul, List.lookup_cons_self]
  exact q x y (by omega) (by omega) d2 B2
theorem law_true : ∀ ns : List Int, ns.length ≤ 63 → ∃ ds, fn_law [.slst ns] = some (.ok (.bl true) ds) := by
  intro ns hn
  have h : OkF (fn_law [.slst ns]) (fun d _ => d = .bl true) fun _ _ => False := by
    obtain ⟨cs, hc, ec⟩ := cut_ints (ns := ns) (lo := none) (hi := some 6)
    unfold fn_law
    simp (dsimp := false) only [↓okE_ok, ↓okE_ex, ↓okA_ok, ↓okA_ex, ↓okS_some, okD_some, okN_some, okL_some, okG_some, ↓okE_bind, ↓okE_aBind, ↓okS_bind, ↓okS_aBind, ↓okE_lift, ↓okE_V, ↓okE_C, ↓okE_1, ↓okE_2, ↓okA_nil, ↓okA_cons, ↓okE_B, ↓okE_Tup, ↓okE_Lst, tE2_bl, ↓okE_If, ↓okE_And, ↓okE_Or, nE_bl, ↓okE_Not, okB_some, ↓okE_Tru, cE_bl, ↓okE_Chain, ↓okE_Chain3, ↓okE_callR, ↓okE_Call, okI_ins, ↓okE_Prop, ↓okE_Meth, ↓okE_Make, okFs_ins, ↓okE_Fld, okT_str, ↓okE_Txt, ↓okE_Cel, okRS_str, ↓okE_RevS, ↓okE_RevL, ↓okE_RevT, tupRev_tup, rev_two, bitsD_int, b_gcd_int, b_comb_ok, b_tuple_tup, b_tuple_lst, b_str_str, b_str_int, addD_lst, addD_tup, catD_lst, repD_lst, mulD_lst, k_zip_lst, k_rev_lst, b_list_lst, b_list_tup, okSl_nn, okSl_in, okSl_ni, okSl_ii, ↓okE_Sl, ↓okE_No, okBd_int, ↓okE_Bd, ↓okE_iL, ↓okE_iT, ↓okE_iS, ↓okE_iA, okC_lst, ↓okE_Comp, okMu_some, ↓okE_Mut, ↓seqK_nx, ↓seqK_rt, ↓seqK_ex, ↓seqK_bk, ↓seqK_ct, ↓okS_Seq, ↓okS_Next, ↓okS_Dead, ↓okS_Brk, ↓okS_Ct, ↓okS_RetN, ↓okS_Raise, ↓okS_Ret, ↓okS_Expr, ↓okS_Set, ↓okS_Par, ↓okS_Aug, ↓okS_Asg, ↓okS_If, okX_some, okZ_int, ↓okS_Sub, okFp_ins, ↓okS_Fld, ↓retK_nx, ↓retK_rt, ↓retK_ex, ↓okF_run, okF_val, okF_exc, ↓lpK_nx, ↓lpK_ct, ↓lpK_bk, ↓lpK_rt, ↓lpK_ex, ↓okS_For, List.getElem?_cons_zero, List.getElem?_cons_succ, List.set_cons_zero, List.set_cons_succ, List.map_cons, List.map_nil, List.length_cons, List.length_nil, List.replicate_succ, List.replicate_zero, List.cons_append, List.nil_append, Option.join_some, Option.getD_some, Option.bind_some, Option.map_some, stD_cons, stD_nil, tgtD_nm, tgtD_tp, tgtsD_nil, tgtsD_cons, argD_full, argD_own, argD_root, argD_cel, argD_nil, putC_full, putC_own, putC_root, putC_cel, putC_nil, outs_t, outs_f, outs_nil, subD_int, addD_int, subI_int, addI_int, mulD_ok, modD_ok, divD_ok, pow1018, pow1015, powD_ok, shlD_ok, shrD_ok, addD_str, mulD_str, b_sum_2, b_len_str, b_len_lst, b_len_tup, k_enumT_str, k_enum_lst, okMu_app, okMu_ext, okL_rng1, okL_rng2, andD_int, xorD_int, negD_int, ltD_int, leD_int, gtD_int, geD_int, eqD_int, eqD_str, eqD_bl, neD_int, neD_str, neD_bl, ixL_0, ixL_1, ixL_2, ixL_3, ixT_0, ixT_1, ixT_2, ixT_3, ixN_0, ixN_1, ixN_2, ixN_3, isD_non, isntD_non, isN, b_int_int, b_int_bl, b_max2_int, b_min2_int, b_abs_int, m_count_str, listD_lst, listD_slst, tupD, strD, decide_eq_true_eq, decide_eq_false_iff_not, decide_true, decide_false, eq_self, and_true, true_and, if_true, if_false, Bool.false_eq_true, ↓reduceIte, Nat.reduceAdd, Nat.reduceSub, Nat.reduceLT, ite_true, ite_false, Bool.not_true, Bool.not_false, Int.toNat_natCast, Int.reduceLT, Int.reduceLE, Int.reduceToNat, Int.reduceMul, Int.reduceAdd, Int.reduceSub, Int.reduceEq, Nat.reduceLeDiff, Nat.reduceMul, List.lookup_cons_self, ec, addD_lst]
    refine ⟨by rw [List.length_map]; exact line_ok (by omega), ?_⟩
    refine loop_inv (fun ds ρ => ∃ (k : Nat) (rest : List Int) (y1 y2 y3 y4 y5 y6 y7 y8 y9 : Option D), ds = enumL k (rest.map .int) ∧ ρ = [some (.slst ns), y1, y2, y3, y4, y5, y6, y7, y8, y9, none, none]) ?_ ?_ _ _ ⟨0, cs ++ [0], none, none, none, none, none, none, none, none, none, by rw [List.map_append]; rfl, rfl⟩
    · rintro d ds ρ ⟨k, rest, y1, y2, y3, y4, y5, y6, y7, y8, y9, hd, rfl⟩
      cases rest with
      | nil => cases hd
      | cons c rest =>
        rw [List.map_cons] at hd
        cases hd
        simp (dsimp := false) only [↓okE_ok, ↓okE_ex, ↓okA_ok, ↓okA_ex, ↓okS_some, okD_some, okN_some, okL_some, okG_some, ↓okE_bind, ↓okE_aBind, ↓okS_bind, ↓okS_aBind, ↓okE_lift, ↓okE_V, ↓okE_C, ↓okE_1, ↓okE_2, ↓okA_nil, ↓okA_cons, ↓okE_B, ↓okE_Tup, ↓okE_Lst, tE2_bl, ↓okE_If, ↓okE_And, ↓okE_Or, nE_bl, ↓okE_Not, okB_some, ↓okE_Tru, cE_bl, ↓okE_Chain, ↓okE_Chain3, ↓okE_callR, ↓okE_Call, okI_ins, ↓okE_Prop, ↓okE_Meth, ↓okE_Make, okFs_ins, ↓okE_Fld, okT_str, ↓okE_Txt, ↓okE_Cel, okRS_str, ↓okE_RevS, ↓okE_RevL, ↓okE_RevT, tupRev_tup, rev_two, bitsD_int, b_gcd_int, b_comb_ok, b_tuple_tup, b_tuple_lst, b_str_str, b_str_int, addD_lst, addD_tup, catD_lst, repD_lst, mulD_lst, k_zip_lst, k_rev_lst, b_list_lst, b_list_tup, okSl_nn, okSl_in, okSl_ni, okSl_ii, ↓okE_Sl, ↓okE_No, okBd_int, ↓okE_Bd, ↓okE_iL, ↓okE_iT, ↓okE_iS, ↓okE_iA, okC_lst, ↓okE_Comp, okMu_some, ↓okE_Mut, ↓seqK_nx, ↓seqK_rt, ↓seqK_ex, ↓seqK_bk, ↓seqK_ct, ↓okS_Seq, ↓okS_Next, ↓okS_Dead, ↓okS_Brk, ↓okS_Ct, ↓okS_RetN, ↓okS_Raise, ↓okS_Ret, ↓okS_Expr, ↓okS_Set, ↓okS_Par, ↓okS_Aug, ↓okS_Asg, ↓okS_If, okX_some, okZ_int, ↓okS_Sub, okFp_ins, ↓okS_Fld, ↓retK_nx, ↓retK_rt, ↓retK_ex, ↓okF_run, okF_val, okF_exc, ↓lpK_nx, ↓lpK_ct, ↓lpK_bk, ↓lpK_rt, ↓lpK_ex, ↓okS_For, List.getElem?_cons_zero, List.getElem?_cons_succ, List.set_cons_zero, List.set_cons_succ, List.map_cons, List.map_nil, List.length_cons, List.length_nil, List.replicate_succ, List.replicate_zero, List.cons_append, List.nil_append, Option.join_some, Option.getD_some, Option.bind_some, Option.map_some, stD_cons, stD_nil, tgtD_nm, tgtD_tp, tgtsD_nil, tgtsD_cons, argD_full, argD_own, argD_root, argD_cel, argD_nil, putC_full, putC_own, putC_root, putC_cel, putC_nil, outs_t, outs_f, outs_nil, subD_int, addD_int, subI_int, addI_int, mulD_ok, modD_ok, divD_ok, pow1018, pow1015, powD_ok, shlD_ok, shrD_ok, addD_str, mulD_str, b_sum_2, b_len_str, b_len_lst, b_len_tup, k_enumT_str, k_enum_lst, okMu_app, okMu_ext, okL_rng1, okL_rng2, andD_int, xorD_int, negD_int, ltD_int, leD_int, gtD_int, geD_int, eqD_int, eqD_str, eqD_bl, neD_int, neD_str, neD_bl, ixL_0, ixL_1, ixL_2, ixL_3, ixT_0, ixT_1, ixT_2, ixT_3, ixN_0, ixN_1, ixN_2, ixN_3, isD_non, isntD_non, isN, b_int_int, b_int_bl, b_max2_int, b_min2_int, b_abs_int, m_count_str, listD_lst, listD_slst, tupD, strD, decide_eq_true_eq, decide_eq_false_iff_not, decide_true, decide_false, eq_self, and_true, true_and, if_true, if_false, Bool.false_eq_true, ↓reduceIte, Nat.reduceAdd, Nat.reduceSub, Nat.reduceLT, ite_true, ite_false, Bool.not_true, Bool.not_false, Int.toNat_natCast, Int.reduceLT, Int.reduceLE, Int.reduceToNat, Int.reduceMul, Int.reduceAdd, Int.reduceSub, Int.reduceEq, Nat.reduceLeDiff, Nat.reduceMul, List.lookup_cons_self]
        refine bag_ok fun d1 B1 => ?_
        obtain ⟨mo, hm1, hm2, em⟩ : ∃ mo : Nat, 3 ≤ mo ∧ mo ≤ 4 ∧ (3 : Int) + (if (k : Int) = 0 then 1 else 0) = (mo : Int) := by
          split
          · exact ⟨4, by decide, by decide, rfl⟩
          · exact ⟨3, by decide, by decide, rfl⟩
        simp (dsimp := false) only [↓okE_ok, ↓okE_ex, ↓okA_ok, ↓okA_ex, ↓okS_some, okD_some, okN_some, okL_some, okG_some, ↓okE_bind, ↓okE_aBind, ↓okS_bind, ↓okS_aBind, ↓okE_lift, ↓okE_V, ↓okE_C, ↓okE_1, ↓okE_2, ↓okA_nil, ↓okA_cons, ↓okE_B, ↓okE_Tup, ↓okE_Lst, tE2_bl, ↓okE_If, ↓okE_And, ↓okE_Or, nE_bl, ↓okE_Not, okB_some, ↓okE_Tru, cE_bl, ↓okE_Chain, ↓okE_Chain3, ↓okE_callR, ↓okE_Call, okI_ins, ↓okE_Prop, ↓okE_Meth, ↓okE_Make, okFs_ins, ↓okE_Fld, okT_str, ↓okE_Txt, ↓okE_Cel, okRS_str, ↓okE_RevS, ↓okE_RevL, ↓okE_RevT, tupRev_tup, rev_two, bitsD_int, b_gcd_int, b_comb_ok, b_tuple_tup, b_tuple_lst, b_str_str, b_str_int, addD_lst, addD_tup, catD_lst, repD_lst, mulD_lst, k_zip_lst, k_rev_lst, b_list_lst, b_list_tup, okSl_nn, okSl_in, okSl_ni, okSl_ii, ↓okE_Sl, ↓okE_No, okBd_int, ↓okE_Bd, ↓okE_iL, ↓okE_iT, ↓okE_iS, ↓okE_iA, okC_lst, ↓okE_Comp, okMu_some, ↓okE_Mut, ↓seqK_nx, ↓seqK_rt, ↓seqK_ex, ↓seqK_bk, ↓seqK_ct, ↓okS_Seq, ↓okS_Next, ↓okS_Dead, ↓okS_Brk, ↓okS_Ct, ↓okS_RetN, ↓okS_Raise, ↓okS_Ret, ↓okS_Expr, ↓okS_Set, ↓okS_Par, ↓okS_Aug, ↓okS_Asg, ↓okS_If, okX_some, okZ_int, ↓okS_Sub, okFp_ins, ↓okS_Fld, ↓retK_nx, ↓retK_rt, ↓retK_ex, ↓okF_run, okF_val, okF_exc, ↓lpK_nx, ↓lpK_ct, ↓lpK_bk, ↓lpK_rt, ↓lpK_ex, ↓okS_For, List.getElem?_cons_zero, List.getElem?_cons_succ, List.set_cons_zero, List.set_cons_succ, List.map_cons, List.map_nil, List.length_cons, List.length_nil, List.replicate_succ, List.replicate_zero, List.cons_append, List.nil_append, Option.join_some, Option.getD_some, Option.bind_some, Option.map_some, stD_cons, stD_nil, tgtD_nm, tgtD_tp, tgtsD_nil, tgtsD_cons, argD_full, argD_own, argD_root, argD_cel, argD_nil, putC_full, putC_own, putC_root, putC_cel, putC_nil, outs_t, outs_f, outs_nil, subD_int, addD_int, subI_int, addI_int, mulD_ok, modD_ok, divD_ok, pow1018, pow1015, powD_ok, shlD_ok, shrD_ok, addD_str, mulD_str, b_sum_2, b_len_str, b_len_lst, b_len_tup, k_enumT_str, k_enum_lst, okMu_app, okMu_ext, okL_rng1, okL_rng2, andD_int, xorD_int, negD_int, ltD_int, leD_int, gtD_int, geD_int, eqD_int, eqD_str, eqD_bl, neD_int, neD_str, neD_bl, ixL_0, ixL_1, ixL_2, ixL_3, ixT_0, ixT_1, ixT_2, ixT_3, ixN_0, ixN_1, ixN_2, ixN_3, isD_non, isntD_non, isN, b_int_int, b_int_bl, b_max2_int, b_min2_int, b_abs_int, m_count_str, listD_lst, listD_slst, tupD, strD, decide_eq_true_eq, decide_eq_false_iff_not, decide_true, decide_false, eq_self, and_true, true_and, if_true, if_false, Bool.false_eq_true, ↓reduceIte, Nat.reduceAdd, Nat.reduceSub, Nat.reduceLT, ite_true, ite_false, Bool.not_true, Bool.not_false, Int.toNat_natCast, Int.reduceLT, Int.reduceLE, Int.reduceToNat, Int.reduceMul, Int.reduceAdd, Int.reduceSub, Int.reduceEq, Nat.reduceLeDiff, Nat.reduceMul, List.lookup_cons_self, em]
        refine ⟨by unfold rngC; omega, ?_⟩
        rw [rng_nat]
        refine loop_rng (fun s ρ => ∃ (d' : D) (y5 y6 y7 y8 y9 : Option D), Bg d' ∧ ρ = [some (.slst ns), some (.int k), some (.int c), some d', some (.int mo), y5, y6, y7, y8, y9, none, none]) ?_ ?_ ⟨d1, y5, y6, y7, y8, y9, B1, rfl⟩
        · rintro s ρ hs ⟨d', y5, y6, y7, y8, y9, Bd, rfl⟩
          simp (dsimp := false) only [↓okE_ok, ↓okE_ex, ↓okA_ok, ↓okA_ex, ↓okS_some, okD_some, okN_some, okL_some, okG_some, ↓okE_bind, ↓okE_aBind, ↓okS_bind, ↓okS_aBind, ↓okE_lift, ↓okE_V, ↓okE_C, ↓okE_1, ↓okE_2, ↓okA_nil, ↓okA_cons, ↓okE_B, ↓okE_Tup, ↓okE_Lst, tE2_bl, ↓okE_If, ↓okE_And, ↓okE_Or, nE_bl, ↓okE_Not, okB_some, ↓okE_Tru, cE_bl, ↓okE_Chain, ↓okE_Chain3, ↓okE_callR, ↓okE_Call, okI_ins, ↓okE_Prop, ↓okE_Meth, ↓okE_Make, okFs_ins, ↓okE_Fld, okT_str, ↓okE_Txt, ↓okE_Cel, okRS_str, ↓okE_RevS, ↓okE_RevL, ↓okE_RevT, tupRev_tup, rev_two, bitsD_int, b_gcd_int, b_comb_ok, b_tuple_tup, b_tuple_lst, b_str_str, b_str_int, addD_lst, addD_tup, catD_lst, repD_lst, mulD_lst, k_zip_lst, k_rev_lst, b_list_lst, b_list_tup, okSl_nn, okSl_in, okSl_ni, okSl_ii, ↓okE_Sl, ↓okE_No, okBd_int, ↓okE_Bd, ↓okE_iL, ↓okE_iT, ↓okE_iS, ↓okE_iA, okC_lst, ↓okE_Comp, okMu_some, ↓okE_Mut, ↓seqK_nx, ↓seqK_rt, ↓seqK_ex, ↓seqK_bk, ↓seqK_ct, ↓okS_Seq, ↓okS_Next, ↓okS_Dead, ↓okS_Brk, ↓okS_Ct, ↓okS_RetN, ↓okS_Raise, ↓okS_Ret, ↓okS_Expr, ↓okS_Set, ↓okS_Par, ↓okS_Aug, ↓okS_Asg, ↓okS_If, okX_some, okZ_int, ↓okS_Sub, okFp_ins, ↓okS_Fld, ↓retK_nx, ↓retK_rt, ↓retK_ex, ↓okF_run, okF_val, okF_exc, ↓lpK_nx, ↓lpK_ct, ↓lpK_bk, ↓lpK_rt, ↓lpK_ex, ↓okS_For, List.getElem?_cons_zero, List.getElem?_cons_succ, List.set_cons_zero, List.set_cons_succ, List.map_cons, List.map_nil, List.length_cons, List.length_nil, List.replicate_succ, List.replicate_zero, List.cons_append, List.nil_append, Option.join_some, Option.getD_some, Option.bind_some, Option.map_some, stD_cons, stD_nil, tgtD_nm, tgtD_tp, tgtsD_nil, tgtsD_cons, argD_full, argD_own, argD_root, argD_cel, argD_nil, putC_full, putC_own, putC_root, putC_cel, putC_nil, outs_t, outs_f, outs_nil, subD_int, addD_int, subI_int, addI_int, mulD_ok, modD_ok, divD_ok, pow1018, pow1015, powD_ok, shlD_ok, shrD_ok, addD_str, mulD_str, b_sum_2, b_len_str, b_len_lst, b_len_tup, k_enumT_str, k_enum_lst, okMu_app, okMu_ext, okL_rng1, okL_rng2, andD_int, xorD_int, negD_int, ltD_int, leD_int, gtD_int, geD_int, eqD_int, eqD_str, eqD_bl, neD_int, neD_str, neD_bl, ixL_0, ixL_1, ixL_2, ixL_3, ixT_0, ixT_1, ixT_2, ixT_3, ixN_0, ixN_1, ixN_2, ixN_3, isD_non, isntD_non, isN, b_int_int, b_int_bl, b_max2_int, b_min2_int, b_abs_int, m_count_str, listD_lst, listD_slst, tupD, strD, decide_eq_true_eq, decide_eq_false_iff_not, decide_true, decide_false, eq_self, and_true, true_and, if_true, if_false, Bool.false_eq_true, ↓reduceIte, Nat.reduceAdd, Nat.reduceSub, Nat.reduceLT, ite_true, ite_false, Bool.not_true, Bool.not_false, Int.toNat_natCast, Int.reduceLT, Int.reduceLE, Int.reduceToNat, Int.reduceMul, Int.reduceAdd, Int.reduceSub, Int.reduceEq, Nat.reduceLeDiff, Nat.reduceMul, List.lookup_cons_self]
          refine pick_bg Bd (by omega) (by omega) fun x hx d2 B2 => ?_
          simp (dsimp := false) only [↓okE_ok, ↓okE_ex, ↓okA_ok, ↓okA_ex, ↓okS_some, okD_some, okN_some, okL_some, okG_some, ↓okE_bind, ↓okE_aBind, ↓okS_bind, ↓okS_aBind, ↓okE_lift, ↓okE_V, ↓okE_C, ↓okE_1, ↓okE_2, ↓okA_nil, ↓okA_cons, ↓okE_B, ↓okE_Tup, ↓okE_Lst, tE2_bl, ↓okE_If, ↓okE_And, ↓okE_Or, nE_bl, ↓okE_Not, okB_some, ↓okE_Tru, cE_bl, ↓okE_Chain, ↓okE_Chain3, ↓okE_callR, ↓okE_Call, okI_ins, ↓okE_Prop, ↓okE_Meth, ↓okE_Make, okFs_ins, ↓okE_Fld, okT_str, ↓okE_Txt, ↓okE_Cel, okRS_str, ↓okE_RevS, ↓okE_RevL, ↓okE_RevT, tupRev_tup, rev_two, bitsD_int, b_gcd_int, b_comb_ok, b_tuple_tup, b_tuple_lst, b_str_str, b_str_int, addD_lst, addD_tup, catD_lst, repD_lst, mulD_lst, k_zip_lst, k_rev_lst, b_list_lst, b_list_tup, okSl_nn, okSl_in, okSl_ni, okSl_ii, ↓okE_Sl, ↓okE_No, okBd_int, ↓okE_Bd, ↓okE_iL, ↓okE_iT, ↓okE_iS, ↓okE_iA, okC_lst, ↓okE_Comp, okMu_some, ↓okE_Mut, ↓seqK_nx, ↓seqK_rt, ↓seqK_ex, ↓seqK_bk, ↓seqK_ct, ↓okS_Seq, ↓okS_Next, ↓okS_Dead, ↓okS_Brk, ↓okS_Ct, ↓okS_RetN, ↓okS_Raise, ↓okS_Ret, ↓okS_Expr, ↓okS_Set, ↓okS_Par, ↓okS_Aug, ↓okS_Asg, ↓okS_If, okX_some, okZ_int, ↓okS_Sub, okFp_ins, ↓okS_Fld, ↓retK_nx, ↓retK_rt, ↓retK_ex, ↓okF_run, okF_val, okF_exc, ↓lpK_nx, ↓lpK_ct, ↓lpK_bk, ↓lpK_rt, ↓lpK_ex, ↓okS_For, List.getElem?_cons_zero, List.getElem?_cons_succ, List.set_cons_zero, List.set_cons_succ, List.map_cons, List.map_nil, List.length_cons, List.length_nil, List.replicate_succ, List.replicate_zero, List.cons_append, List.nil_append, Option.join_some, Option.getD_some, Option.bind_some, Option.map_some, stD_cons, stD_nil, tgtD_nm, tgtD_tp, tgtsD_nil, tgtsD_cons, argD_full, argD_own, argD_root, argD_cel, argD_nil, putC_full, putC_own, putC_root, putC_cel, putC_nil, outs_t, outs_f, outs_nil, subD_int, addD_int, subI_int, addI_int, mulD_ok, modD_ok, divD_ok, pow1018, pow1015, powD_ok, shlD_ok, shrD_ok, addD_str, mulD_str, b_sum_2, b_len_str, b_len_lst, b_len_tup, k_enumT_str, k_enum_lst, okMu_app, okMu_ext, okL_rng1, okL_rng2, andD_int, xorD_int, negD_int, ltD_int, leD_int, gtD_int, geD_int, eqD_int, eqD_str, eqD_bl, neD_int, neD_str, neD_bl, ixL_0, ixL_1, ixL_2, ixL_3, ixT_0, ixT_1, ixT_2, ixT_3, ixN_0, ixN_1, ixN_2, ixN_3, isD_non, isntD_non, isN, b_int_int, b_int_bl, b_max2_int, b_min2_int, b_abs_int, m_count_str, listD_lst, listD_slst, tupD, strD, decide_eq_true_eq, decide_eq_false_iff_not, decide_true, decide_false, eq_self, and_true, true_and, if_true, if_false, Bool.false_eq_true, ↓reduceIte, Nat.reduceAdd, Nat.reduceSub, Nat.reduceLT, ite_true, ite_false, Bool.not_true, Bool.not_false, Int.toNat_natCast, Int.reduceLT, Int.reduceLE, Int.reduceToNat, Int.reduceMul, Int.reduceAdd, Int.reduceSub, Int.reduceEq, Nat.reduceLeDiff, Nat.reduceMul, List.lookup_cons_self]
          refine pick_bg B2 (by omega) (by omega) fun y' hy d3 B3 => ?_
          have ey : (1 : Int) + y' = ((y' + 1 : Nat) : Int) := by omega
          have hy5 : y' + 1 < 5 := by omega
          generalize y' + 1 = y at ey hy5
          have hy1 : 1 ≤ y := by omega
          have hx5 : x < 5 := by omega
          simp (dsimp := false) only [↓okE_ok, ↓okE_ex, ↓okA_ok, ↓okA_ex, ↓okS_some, okD_some, okN_some, okL_some, okG_some, ↓okE_bind, ↓okE_aBind, ↓okS_bind, ↓okS_aBind, ↓okE_lift, ↓okE_V, ↓okE_C, ↓okE_1, ↓okE_2, ↓okA_nil, ↓okA_cons, ↓okE_B, ↓okE_Tup, ↓okE_Lst, tE2_bl, ↓okE_If, ↓okE_And, ↓okE_Or, nE_bl, ↓okE_Not, okB_some, ↓okE_Tru, cE_bl, ↓okE_Chain, ↓okE_Chain3, ↓okE_callR, ↓okE_Call, okI_ins, ↓okE_Prop, ↓okE_Meth, ↓okE_Make, okFs_ins, ↓okE_Fld, okT_str, ↓okE_Txt, ↓okE_Cel, okRS_str, ↓okE_RevS, ↓okE_RevL, ↓okE_RevT, tupRev_tup, rev_two, bitsD_int, b_gcd_int, b_comb_ok, b_tuple_tup, b_tuple_lst, b_str_str, b_str_int, addD_lst, addD_tup, catD_lst, repD_lst, mulD_lst, k_zip_lst, k_rev_lst, b_list_lst, b_list_tup, okSl_nn, okSl_in, okSl_ni, okSl_ii, ↓okE_Sl, ↓okE_No, okBd_int, ↓okE_Bd, ↓okE_iL, ↓okE_iT, ↓okE_iS, ↓okE_iA, okC_lst, ↓okE_Comp, okMu_some, ↓okE_Mut, ↓seqK_nx, ↓seqK_rt, ↓seqK_ex, ↓seqK_bk, ↓seqK_ct, ↓okS_Seq, ↓okS_Next, ↓okS_Dead, ↓okS_Brk, ↓okS_Ct, ↓okS_RetN, ↓okS_Raise, ↓okS_Ret, ↓okS_Expr, ↓okS_Set, ↓okS_Par, ↓okS_Aug, ↓okS_Asg, ↓okS_If, okX_some, okZ_int, ↓okS_Sub, okFp_ins, ↓okS_Fld, ↓retK_nx, ↓retK_rt, ↓retK_ex, ↓okF_run, okF_val, okF_exc, ↓lpK_nx, ↓lpK_ct, ↓lpK_bk, ↓lpK_rt, ↓lpK_ex, ↓okS_For, List.getElem?_cons_zero, List.getElem?_cons_succ, List.set_cons_zero, List.set_cons_succ, List.map_cons, List.map_nil, List.length_cons, List.length_nil, List.replicate_succ, List.replicate_zero, List.cons_append, List.nil_append, Option.join_some, Option.getD_some, Option.bind_some, Option.map_some, stD_cons, stD_nil, tgtD_nm, tgtD_tp, tgtsD_nil, tgtsD_cons, argD_full, argD_own, argD_root, argD_cel, argD_nil, putC_full, putC_own, putC_root, putC_cel, putC_nil, outs_t, outs_f, outs_nil, subD_int, addD_int, subI_int, addI_int, mulD_ok, modD_ok, divD_ok, pow1018, pow1015, powD_ok, shlD_ok, shrD_ok, addD_str, mulD_str, b_sum_2, b_len_str, b_len_lst, b_len_tup, k_enumT_str, k_enum_lst, okMu_app, okMu_ext, okL_rng1, okL_rng2, andD_int, xorD_int, negD_int, ltD_int, leD_int, gtD_int, geD_int, eqD_int, eqD_str, eqD_bl, neD_int, neD_str, neD_bl, ixL_0, ixL_1, ixL_2, ixL_3, ixT_0, ixT_1, ixT_2, ixT_3, ixN_0, ixN_1, ixN_2, ixN_3, isD_non, isntD_non, isN, b_int_int, b_int_bl, b_max2_int, b_min2_int, b_abs_int, m_count_str, listD_lst, listD_slst, tupD, strD, decide_eq_true_eq, decide_eq_false_iff_not, decide_true, decide_false, eq_self, and_true, true_and, if_true, if_false, Bool.false_eq_true, ↓reduceIte, Nat.reduceAdd, Nat.reduceSub, Nat.reduceLT, ite_true, ite_false, Bool.not_true, Bool.not_false, Int.toNat_natCast, Int.reduceLT, Int.reduceLE, Int.reduceToNat, Int.reduceMul, Int.reduceAdd, Int.reduceSub, Int.reduceEq, Nat.reduceLeDiff, Nat.reduceMul, List.lookup_cons_self, ey]
          refine some_cell_ok B3 hx5 hy5 fun a b ha hb d4 B4 => ?_
          simp (dsimp := false) only [↓okE_ok, ↓okE_ex, ↓okA_ok, ↓okA_ex, ↓okS_some, okD_some, okN_some, okL_some, okG_some, ↓okE_bind, ↓okE_aBind, ↓okS_bind, ↓okS_aBind, ↓okE_lift, ↓okE_V, ↓okE_C, ↓okE_1, ↓okE_2, ↓okA_nil, ↓okA_cons, ↓okE_B, ↓okE_Tup, ↓okE_Lst, tE2_bl, ↓okE_If, ↓okE_And, ↓okE_Or, nE_bl, ↓okE_Not, okB_some, ↓okE_Tru, cE_bl, ↓okE_Chain, ↓okE_Chain3, ↓okE_callR, ↓okE_Call, okI_ins, ↓okE_Prop, ↓okE_Meth, ↓okE_Make, okFs_ins, ↓okE_Fld, okT_str, ↓okE_Txt, ↓okE_Cel, okRS_str, ↓okE_RevS, ↓okE_RevL, ↓okE_RevT, tupRev_tup, rev_two, bitsD_int, b_gcd_int, b_comb_ok, b_tuple_tup, b_tuple_lst, b_str_str, b_str_int, addD_lst, addD_tup, catD_lst, repD_lst, mulD_lst, k_zip_lst, k_rev_lst, b_list_lst, b_list_tup, okSl_nn, okSl_in, okSl_ni, okSl_ii, ↓okE_Sl, ↓okE_No, okBd_int, ↓okE_Bd, ↓okE_iL, ↓okE_iT, ↓okE_iS, ↓okE_iA, okC_lst, ↓okE_Comp, okMu_some, ↓okE_Mut, ↓seqK_nx, ↓seqK_rt, ↓seqK_ex, ↓seqK_bk, ↓seqK_ct, ↓okS_Seq, ↓okS_Next, ↓okS_Dead, ↓okS_Brk, ↓okS_Ct, ↓okS_RetN, ↓okS_Raise, ↓okS_Ret, ↓okS_Expr, ↓okS_Set, ↓okS_Par, ↓okS_Aug, ↓okS_Asg, ↓okS_If, okX_some, okZ_int, ↓okS_Sub, okFp_ins, ↓okS_Fld, ↓retK_nx, ↓retK_rt, ↓retK_ex, ↓okF_run, okF_val, okF_exc, ↓lpK_nx, ↓lpK_ct, ↓lpK_bk, ↓lpK_rt, ↓lpK_ex, ↓okS_For, List.getElem?_cons_zero, List.getElem?_cons_succ, List.set_cons_zero, List.set_cons_succ, List.map_cons, List.map_nil, List.length_cons, List.length_nil, List.replicate_succ, List.replicate_zero, List.cons_append, List.nil_append, Option.join_some, Option.getD_some, Option.bind_some, Option.map_some, stD_cons, stD_nil, tgtD_nm, tgtD_tp, tgtsD_nil, tgtsD_cons, argD_full, argD_own, argD_root, argD_cel, argD_nil, putC_full, putC_own, putC_root, putC_cel, putC_nil, outs_t, outs_f, outs_nil, subD_int, addD_int, subI_int, addI_int, mulD_ok, modD_ok, divD_ok, pow1018, pow1015, powD_ok, shlD_ok, shrD_ok, addD_str, mulD_str, b_sum_2, b_len_str, b_len_lst, b_len_tup, k_enumT_str, k_enum_lst, okMu_app, okMu_ext, okL_rng1, okL_rng2, andD_int, xorD_int, negD_int, ltD_int, leD_int, gtD_int, geD_int, eqD_int, eqD_str, eqD_bl, neD_int, neD_str, neD_bl, ixL_0, ixL_1, ixL_2, ixL_3, ixT_0, ixT_1, ixT_2, ixT_3, ixN_0, ixN_1, ixN_2, ixN_3, isD_non, isntD_non, isN, b_int_int, b_int_bl, b_max2_int, b_min2_int, b_abs_int, m_count_str, listD_lst, listD_slst, tupD, strD, decide_eq_true_eq, decide_eq_false_iff_not, decide_true, decide_false, eq_self, and_true, true_and, if_true, if_false, Bool.false_eq_true, ↓reduceIte, Nat.reduceAdd, Nat.reduceSub, Nat.reduceLT, ite_true, ite_false, Bool.not_true, Bool.not_false, Int.toNat_natCast, Int.reduceLT, Int.reduceLE, Int.reduceToNat, Int.reduceMul, Int.reduceAdd, Int.reduceSub, Int.reduceEq, Nat.reduceLeDiff, Nat.reduceMul, List.lookup_cons_self]
          refine some_cell_ok B4 hx5 hy5 fun a' b' ha' hb' d5 B5 => ?_
          have r1 := law_right_eq hx5 hy5 (by omega) ha hb ha' hb'
          have r2 := law_right_eq hx5 hy5 (by omega) ha hb ha hb
          have r3 := law_right_eq hy5 hx5 (by omega) hb ha hb' ha'
          simp (dsimp := false) only [↓okE_ok, ↓okE_ex, ↓okA_ok, ↓okA_ex, ↓okS_some, okD_some, okN_some, okL_some, okG_some, ↓okE_bind, ↓okE_aBind, ↓okS_bind, ↓okS_aBind, ↓okE_lift, ↓okE_V, ↓okE_C, ↓okE_1, ↓okE_2, ↓okA_nil, ↓okA_cons, ↓okE_B, ↓okE_Tup, ↓okE_Lst, tE2_bl, ↓okE_If, ↓okE_And, ↓okE_Or, nE_bl, ↓okE_Not, okB_some, ↓okE_Tru, cE_bl, ↓okE_Chain, ↓okE_Chain3, ↓okE_callR, ↓okE_Call, okI_ins, ↓okE_Prop, ↓okE_Meth, ↓okE_Make, okFs_ins, ↓okE_Fld, okT_str, ↓okE_Txt, ↓okE_Cel, okRS_str, ↓okE_RevS, ↓okE_RevL, ↓okE_RevT, tupRev_tup, rev_two, bitsD_int, b_gcd_int, b_comb_ok, b_tuple_tup, b_tuple_lst, b_str_str, b_str_int, addD_lst, addD_tup, catD_lst, repD_lst, mulD_lst, k_zip_lst, k_rev_lst, b_list_lst, b_list_tup, okSl_nn, okSl_in, okSl_ni, okSl_ii, ↓okE_Sl, ↓okE_No, okBd_int, ↓okE_Bd, ↓okE_iL, ↓okE_iT, ↓okE_iS, ↓okE_iA, okC_lst, ↓okE_Comp, okMu_some, ↓okE_Mut, ↓seqK_nx, ↓seqK_rt, ↓seqK_ex, ↓seqK_bk, ↓seqK_ct, ↓okS_Seq, ↓okS_Next, ↓okS_Dead, ↓okS_Brk, ↓okS_Ct, ↓okS_RetN, ↓okS_Raise, ↓okS_Ret, ↓okS_Expr, ↓okS_Set, ↓okS_Par, ↓okS_Aug, ↓okS_Asg, ↓okS_If, okX_some, okZ_int, ↓okS_Sub, okFp_ins, ↓okS_Fld, ↓retK_nx, ↓retK_rt, ↓retK_ex, ↓okF_run, okF_val, okF_exc, ↓lpK_nx, ↓lpK_ct, ↓lpK_bk, ↓lpK_rt, ↓lpK_ex, ↓okS_For, List.getElem?_cons_zero, List.getElem?_cons_succ, List.set_cons_zero, List.set_cons_succ, List.map_cons, List.map_nil, List.length_cons, List.length_nil, List.replicate_succ, List.replicate_zero, List.cons_append, List.nil_append, Option.join_some, Option.getD_some, Option.bind_some, Option.map_some, stD_cons, stD_nil, tgtD_nm, tgtD_tp, tgtsD_nil, tgtsD_cons, argD_full, argD_own, argD_root, argD_cel, argD_nil, putC_full, putC_own, putC_root, putC_cel, putC_nil, outs_t, outs_f, outs_nil, subD_int, addD_int, subI_int, addI_int, mulD_ok, modD_ok, divD_ok, pow1018, pow1015, powD_ok, shlD_ok, shrD_ok, addD_str, mulD_str, b_sum_2, b_len_str, b_len_lst, b_len_tup, k_enumT_str, k_enum_lst, okMu_app, okMu_ext, okL_rng1, okL_rng2, andD_int, xorD_int, negD_int, ltD_int, leD_int, gtD_int, geD_int, eqD_int, eqD_str, eqD_bl, neD_int, neD_str, neD_bl, ixL_0, ixL_1, ixL_2, ixL_3, ixT_0, ixT_1, ixT_2, ixT_3, ixN_0, ixN_1, ixN_2, ixN_3, isD_non, isntD_non, isN, b_int_int, b_int_bl, b_max2_int, b_min2_int, b_abs_int, m_count_str, listD_lst, listD_slst, tupD, strD, decide_eq_true_eq, decide_eq_false_iff_not, decide_true, decide_false, eq_self, and_true, true_and, if_true, if_false, Bool.false_eq_true, ↓reduceIte, Nat.reduceAdd, Nat.reduceSub, Nat.reduceLT, ite_true, ite_false, Bool.not_true, Bool.not_false, Int.toNat_natCast, Int.reduceLT, Int.reduceLE, Int.reduceToNat, Int.reduceMul, Int.reduceAdd, Int.reduceSub, Int.reduceEq, Nat.reduceLeDiff, Nat.reduceMul, List.lookup_cons_self, r1, r2, r3]
          exact ⟨_, _, _, _, _, _, B5, rfl⟩
        · rintro ρ ⟨d', y5, y6, y7, y8, y9, Bd, rfl⟩
          simp (dsimp := false) only [↓okE_ok, ↓okE_ex, ↓okA_ok, ↓okA_ex, ↓okS_some, okD_some, okN_some, okL_some, okG_some, ↓okE_bind, ↓okE_aBind, ↓okS_bind, ↓okS_aBind, ↓okE_lift, ↓okE_V, ↓okE_C, ↓okE_1, ↓okE_2, ↓okA_nil, ↓okA_cons, ↓okE_B, ↓okE_Tup, ↓okE_Lst, tE2_bl, ↓okE_If, ↓okE_And, ↓okE_Or, nE_bl, ↓okE_Not, okB_some, ↓okE_Tru, cE_bl, ↓okE_Chain, ↓okE_Chain3, ↓okE_callR, ↓okE_Call, okI_ins, ↓okE_Prop, ↓okE_Meth, ↓okE_Make, okFs_ins, ↓okE_Fld, okT_str, ↓okE_Txt, ↓okE_Cel, okRS_str, ↓okE_RevS, ↓okE_RevL, ↓okE_RevT, tupRev_tup, rev_two, bitsD_int, b_gcd_int, b_comb_ok, b_tuple_tup, b_tuple_lst, b_str_str, b_str_int, addD_lst, addD_tup, catD_lst, repD_lst, mulD_lst, k_zip_lst, k_rev_lst, b_list_lst, b_list_tup, okSl_nn, okSl_in, okSl_ni, okSl_ii, ↓okE_Sl, ↓okE_No, okBd_int, ↓okE_Bd, ↓okE_iL, ↓okE_iT, ↓okE_iS, ↓okE_iA, okC_lst, ↓okE_Comp, okMu_some, ↓okE_Mut, ↓seqK_nx, ↓seqK_rt, ↓seqK_ex, ↓seqK_bk, ↓seqK_ct, ↓okS_Seq, ↓okS_Next, ↓okS_Dead, ↓okS_Brk, ↓okS_Ct, ↓okS_RetN, ↓okS_Raise, ↓okS_Ret, ↓okS_Expr, ↓okS_Set, ↓okS_Par, ↓okS_Aug, ↓okS_Asg, ↓okS_If, okX_some, okZ_int, ↓okS_Sub, okFp_ins, ↓okS_Fld, ↓retK_nx, ↓retK_rt, ↓retK_ex, ↓okF_run, okF_val, okF_exc, ↓lpK_nx, ↓lpK_ct, ↓lpK_bk, ↓lpK_rt, ↓lpK_ex, ↓okS_For, List.getElem?_cons_zero, List.getElem?_cons_succ, List.set_cons_zero, List.set_cons_succ, List.map_cons, List.map_nil, List.length_cons, List.length_nil, List.replicate_succ, List.replicate_zero, List.cons_append, List.nil_append, Option.join_some, Option.getD_some, Option.bind_some, Option.map_some, stD_cons, stD_nil, tgtD_nm, tgtD_tp, tgtsD_nil, tgtsD_cons, argD_full, argD_own, argD_root, argD_cel, argD_nil, putC_full, putC_own, putC_root, putC_cel, putC_nil, outs_t, outs_f, outs_nil, subD_int, addD_int, subI_int, addI_int, mulD_ok, modD_ok, divD_ok, pow1018, pow1015, powD_ok, shlD_ok, shrD_ok, addD_str, mulD_str, b_sum_2, b_len_str, b_len_lst, b_len_tup, k_enumT_str, k_enum_lst, okMu_app, okMu_ext, okL_rng1, okL_rng2, andD_int, xorD_int, negD_int, ltD_int, leD_int, gtD_int, geD_int, eqD_int, eqD_str, eqD_bl, neD_int, neD_str, neD_bl, ixL_0, ixL_1, ixL_2, ixL_3, ixT_0, ixT_1, ixT_2, ixT_3, ixN_0, ixN_1, ixN_2, ixN_3, isD_non, isntD_non, isN, b_int_int, b_int_bl, b_max2_int, b_min2_int, b_abs_int, m_count_str, listD_lst, listD_slst, tupD, strD, decide_eq_true_eq, decide_eq_false_iff_not, decide_true, decide_false, eq_self, and_true, true_and, if_true, if_false, Bool.false_eq_true, ↓reduceIte, Nat.reduceAdd, Nat.reduceSub, Nat.reduceLT, ite_true, ite_false, Bool.not_true, Bool.not_false, Int.toNat_natCast, Int.reduceLT, Int.reduceLE, Int.reduceToNat, Int.reduceMul, Int.reduceAdd, Int.reduceSub, Int.reduceEq, Nat.reduceLeDiff, Nat.reduceMul, List.lookup_cons_self]
          exact ⟨k + 1, rest, _, _, _, _, _, _, _, _, _, rfl, rfl⟩
    · rintro ρ ⟨k, rest, y1, y2, y3, y4, y5, y6, y7, y8, y9, hd, rfl⟩
      simp (dsimp := false) only [↓okE_ok, ↓okE_ex, ↓okA_ok, ↓okA_ex, ↓okS_some, okD_some, okN_some, okL_some, okG_some, ↓okE_bind, ↓okE_aBind, ↓okS_bind, ↓okS_aBind, ↓okE_lift, ↓okE_V, ↓okE_C, ↓okE_1, ↓okE_2, ↓okA_nil, ↓okA_cons, ↓okE_B, ↓okE_Tup, ↓okE_Lst, tE2_bl, ↓okE_If, ↓okE_And, ↓okE_Or, nE_bl, ↓okE_Not, okB_some, ↓okE_Tru, cE_bl, ↓okE_Chain, ↓okE_Chain3, ↓okE_callR, ↓okE_Call, okI_ins, ↓okE_Prop, ↓okE_Meth, ↓okE_Make, okFs_ins, ↓okE_Fld, okT_str, ↓okE_Txt, ↓okE_Cel, okRS_str, ↓okE_RevS, ↓okE_RevL, ↓okE_RevT, tupRev_tup, rev_two, bitsD_int, b_gcd_int, b_comb_ok, b_tuple_tup, b_tuple_lst, b_str_str, b_str_int, addD_lst, addD_tup, catD_lst, repD_lst, mulD_lst, k_zip_lst, k_rev_lst, b_list_lst, b_list_tup, okSl_nn, okSl_in, okSl_ni, okSl_ii, ↓okE_Sl, ↓okE_No, okBd_int, ↓okE_Bd, ↓okE_iL, ↓okE_iT, ↓okE_iS, ↓okE_iA, okC_lst, ↓okE_Comp, okMu_some, ↓okE_Mut, ↓seqK_nx, ↓seqK_rt, ↓seqK_ex, ↓seqK_bk, ↓seqK_ct, ↓okS_Seq, ↓okS_Next, ↓okS_Dead, ↓okS_Brk, ↓okS_Ct, ↓okS_RetN, ↓okS_Raise, ↓okS_Ret, ↓okS_Expr, ↓okS_Set, ↓okS_Par, ↓okS_Aug, ↓okS_Asg, ↓okS_If, okX_some, okZ_int, ↓okS_Sub, okFp_ins, ↓okS_Fld, ↓retK_nx, ↓retK_rt, ↓retK_ex, ↓okF_run, okF_val, okF_exc, ↓lpK_nx, ↓lpK_ct, ↓lpK_bk, ↓lpK_rt, ↓lpK_ex, ↓okS_For, List.getElem?_cons_zero, List.getElem?_cons_succ, List.set_cons_zero, List.set_cons_succ, List.map_cons, List.map_nil, List.length_cons, List.length_nil, List.replicate_succ, List.replicate_zero, List.cons_append, List.nil_append, Option.join_some, Option.getD_some, Option.bind_some, Option.map_some, stD_cons, stD_nil, tgtD_nm, tgtD_tp, tgtsD_nil, tgtsD_cons, argD_full, argD_own, argD_root, argD_cel, argD_nil, putC_full, putC_own, putC_root, putC_cel, putC_nil, outs_t, outs_f, outs_nil, subD_int, addD_int, subI_int, addI_int, mulD_ok, modD_ok, divD_ok, pow1018, pow1015, powD_ok, shlD_ok, shrD_ok, addD_str, mulD_str, b_sum_2, b_len_str, b_len_lst, b_len_tup, k_enumT_str, k_enum_lst, okMu_app, okMu_ext, okL_rng1, okL_rng2, andD_int, xorD_int, negD_int, ltD_int, leD_int, gtD_int, geD_int, eqD_int, eqD_str, eqD_bl, neD_int, neD_str, neD_bl, ixL_0, ixL_1, ixL_2, ixL_3, ixT_0, ixT_1, ixT_2, ixT_3, ixN_0, ixN_1, ixN_2, ixN_3, isD_non, isntD_non, isN, b_int_int, b_int_bl, b_max2_int, b_min2_int, b_abs_int, m_count_str, listD_lst, listD_slst, tupD, strD, decide_eq_true_eq, decide_eq_false_iff_not, decide_true, decide_false, eq_self, and_true, true_and, if_true, if_false, Bool.false_eq_true, ↓reduceIte, Nat.reduceAdd, Nat.reduceSub, Nat.reduceLT, ite_true, ite_false, Bool.not_true, Bool.not_false, Int.toNat_natCast, Int.reduceLT, Int.reduceLE, Int.reduceToNat, Int.reduceMul, Int.reduceAdd, Int.reduceSub, Int.reduceEq, Nat.reduceLeDiff, Nat.reduceMul, List.lookup_cons_self]
      rw [show ([D.tup [.int 0, .int 1], .tup [.int 0, .int 2], .tup [.int 3, .int 0]] : List D) = [((0, 1) : Nat × Nat), (0, 2), (3, 0)].map fun p => D.tup [.int (p.1 : Nat), .int (p.2 : Nat)] from rfl]
      rw [compF_typed (gD := fun p : Nat × Nat => D.int (aheadN 2 2 1 0 p.1 p.2 : Nat)) [((0, 1) : Nat × Nat), (0, 2), (3, 0)] (show 3 ≤ sizeLine from by decide) fun p hp => ⟨_, rfl, by
        have hb : p.1 < 2 ^ 2 ∧ p.2 < 2 ^ 2 := by
          simp only [List.mem_cons, List.not_mem_nil, or_false] at hp
          rcases hp with rfl | rfl | rfl <;> decide
        have c : fn_count_ahead [.int 2, .int 2, .tup [.int 1, .int 0], .tup [.int p.1, .int p.2]] = some (.ok (.int (aheadN 2 2 1 0 p.1 p.2 : Nat)) [.int 2, .int 2, .tup [.int 1, .int 0], .tup [.int p.1, .int p.2]]) := count_ahead_eq (n := 2) (m := 2) (x1 := 1) (y1 := 0) (by decide) (by decide) (by decide) (by decide) (by decide) hb.1 hb.2
        simp (dsimp := false) only [↓okE_ok, ↓okE_ex, ↓okA_ok, ↓okA_ex, ↓okS_some, okD_some, okN_some, okL_some, okG_some, ↓okE_bind, ↓okE_aBind, ↓okS_bind, ↓okS_aBind, ↓okE_lift, ↓okE_V, ↓okE_C, ↓okE_1, ↓okE_2, ↓okA_nil, ↓okA_cons, ↓okE_B, ↓okE_Tup, ↓okE_Lst, tE2_bl, ↓okE_If, ↓okE_And, ↓okE_Or, nE_bl, ↓okE_Not, okB_some, ↓okE_Tru, cE_bl, ↓okE_Chain, ↓okE_Chain3, ↓okE_callR, ↓okE_Call, okI_ins, ↓okE_Prop, ↓okE_Meth, ↓okE_Make, okFs_ins, ↓okE_Fld, okT_str, ↓okE_Txt, ↓okE_Cel, okRS_str, ↓okE_RevS, ↓okE_RevL, ↓okE_RevT, tupRev_tup, rev_two, bitsD_int, b_gcd_int, b_comb_ok, b_tuple_tup, b_tuple_lst, b_str_str, b_str_int, addD_lst, addD_tup, catD_lst, repD_lst, mulD_lst, k_zip_lst, k_rev_lst, b_list_lst, b_list_tup, okSl_nn, okSl_in, okSl_ni, okSl_ii, ↓okE_Sl, ↓okE_No, okBd_int, ↓okE_Bd, ↓okE_iL, ↓okE_iT, ↓okE_iS, ↓okE_iA, okC_lst, ↓okE_Comp, okMu_some, ↓okE_Mut, ↓seqK_nx, ↓seqK_rt, ↓seqK_ex, ↓seqK_bk, ↓seqK_ct, ↓okS_Seq, ↓okS_Next, ↓okS_Dead, ↓okS_Brk, ↓okS_Ct, ↓okS_RetN, ↓okS_Raise, ↓okS_Ret, ↓okS_Expr, ↓okS_Set, ↓okS_Par, ↓okS_Aug, ↓okS_Asg, ↓okS_If, okX_some, okZ_int, ↓okS_Sub, okFp_ins, ↓okS_Fld, ↓retK_nx, ↓retK_rt, ↓retK_ex, ↓okF_run, okF_val, okF_exc, ↓lpK_nx, ↓lpK_ct, ↓lpK_bk, ↓lpK_rt, ↓lpK_ex, ↓okS_For, List.getElem?_cons_zero, List.getElem?_cons_succ, List.set_cons_zero, List.set_cons_succ, List.map_cons, List.map_nil, List.length_cons, List.length_nil, List.replicate_succ, List.replicate_zero, List.cons_append, List.nil_append, Option.join_some, Option.getD_some, Option.bind_some, Option.map_some, stD_cons, stD_nil, tgtD_nm, tgtD_tp, tgtsD_nil, tgtsD_cons, argD_full, argD_own, argD_root, argD_cel, argD_nil, putC_full, putC_own, putC_root, putC_cel, putC_nil, outs_t, outs_f, outs_nil, subD_int, addD_int, subI_int, addI_int, mulD_ok, modD_ok, divD_ok, pow1018, pow1015, powD_ok, shlD_ok, shrD_ok, addD_str, mulD_str, b_sum_2, b_len_str, b_len_lst, b_len_tup, k_enumT_str, k_enum_lst, okMu_app, okMu_ext, okL_rng1, okL_rng2, andD_int, xorD_int, negD_int, ltD_int, leD_int, gtD_int, geD_int, eqD_int, eqD_str, eqD_bl, neD_int, neD_str, neD_bl, ixL_0, ixL_1, ixL_2, ixL_3, ixT_0, ixT_1, ixT_2, ixT_3, ixN_0, ixN_1, ixN_2, ixN_3, isD_non, isntD_non, isN, b_int_int, b_int_bl, b_max2_int, b_min2_int, b_abs_int, m_count_str, listD_lst, listD_slst, tupD, strD, decide_eq_true_eq, decide_eq_false_iff_not, decide_true, decide_false, eq_self, and_true, true_and, if_true, if_false, Bool.false_eq_true, ↓reduceIte, Nat.reduceAdd, Nat.reduceSub, Nat.reduceLT, ite_true, ite_false, Bool.not_true, Bool.not_false, Int.toNat_natCast, Int.reduceLT, Int.reduceLE, Int.reduceToNat, Int.reduceMul, Int.reduceAdd, Int.reduceSub, Int.reduceEq, Nat.reduceLeDiff, Nat.reduceMul, List.lookup_cons_self, wipeD, c], rfl⟩]
      rw [show [((0, 1) : Nat × Nat), (0, 2), (3, 0)].map (fun p : Nat × Nat => D.int (aheadN 2 2 1 0 p.1 p.2 : Nat)) = [.int 3, .int 5, .int 6] by
        rw [List.map_cons, List.map_cons, List.map_cons, List.map_nil, show aheadN 2 2 1 0 0 1 = 3 by decide +kernel, show aheadN 2 2 1 0 0 2 = 5 by decide +kernel, show aheadN 2 2 1 0 3 0 = 6 by decide +kernel]
        rfl]
      have eq3 : eqD (.lst [.int 3, .int 5, .int 6]) (.lst [.int 3, .int 5, .int 6]) = some (.bl true) := PlE.eq (k := 1) (ple_lst (ple_cons (ple_small (i := 3) (by decide)) (ple_cons (ple_small (i := 5) (by decide)) (ple_cons (ple_small (i := 6) (by decide)) ple_nil))))
      simp (dsimp := false) only [↓okE_ok, ↓okE_ex, ↓okA_ok, ↓okA_ex, ↓okS_some, okD_some, okN_some, okL_some, okG_some, ↓okE_bind, ↓okE_aBind, ↓okS_bind, ↓okS_aBind, ↓okE_lift, ↓okE_V, ↓okE_C, ↓okE_1, ↓okE_2, ↓okA_nil, ↓okA_cons, ↓okE_B, ↓okE_Tup, ↓okE_Lst, tE2_bl, ↓okE_If, ↓okE_And, ↓okE_Or, nE_bl, ↓okE_Not, okB_some, ↓okE_Tru, cE_bl, ↓okE_Chain, ↓okE_Chain3, ↓okE_callR, ↓okE_Call, okI_ins, ↓okE_Prop, ↓okE_Meth, ↓okE_Make, okFs_ins, ↓okE_Fld, okT_str, ↓okE_Txt, ↓okE_Cel, okRS_str, ↓okE_RevS, ↓okE_RevL, ↓okE_RevT, tupRev_tup, rev_two, bitsD_int, b_gcd_int, b_comb_ok, b_tuple_tup, b_tuple_lst, b_str_str, b_str_int, addD_lst, addD_tup, catD_lst, repD_lst, mulD_lst, k_zip_lst, k_rev_lst, b_list_lst, b_list_tup, okSl_nn, okSl_in, okSl_ni, okSl_ii, ↓okE_Sl, ↓okE_No, okBd_int, ↓okE_Bd, ↓okE_iL, ↓okE_iT, ↓okE_iS, ↓okE_iA, okC_lst, ↓okE_Comp, okMu_some, ↓okE_Mut, ↓seqK_nx, ↓seqK_rt, ↓seqK_ex, ↓seqK_bk, ↓seqK_ct, ↓okS_Seq, ↓okS_Next, ↓okS_Dead, ↓okS_Brk, ↓okS_Ct, ↓okS_RetN, ↓okS_Raise, ↓okS_Ret, ↓okS_Expr, ↓okS_Set, ↓okS_Par, ↓okS_Aug, ↓okS_Asg, ↓okS_If, okX_some, okZ_int, ↓okS_Sub, okFp_ins, ↓okS_Fld, ↓retK_nx, ↓retK_rt, ↓retK_ex, ↓okF_run, okF_val, okF_exc, ↓lpK_nx, ↓lpK_ct, ↓lpK_bk, ↓lpK_rt, ↓lpK_ex, ↓okS_For, List.getElem?_cons_zero, List.getElem?_cons_succ, List.set_cons_zero, List.set_cons_succ, List.map_cons, List.map_nil, List.length_cons, List.length_nil, List.replicate_succ, List.replicate_zero, List.cons_append, List.nil_append, Option.join_some, Option.getD_some, Option.bind_some, Option.map_some, stD_cons, stD_nil, tgtD_nm, tgtD_tp, tgtsD_nil, tgtsD_cons, argD_full, argD_own, argD_root, argD_cel, argD_nil, putC_full, putC_own, putC_root, putC_cel, putC_nil, outs_t, outs_f, outs_nil, subD_int, addD_int, subI_int, addI_int, mulD_ok, modD_ok, divD_ok, pow1018, pow1015, powD_ok, shlD_ok, shrD_ok, addD_str, mulD_str, b_sum_2, b_len_str, b_len_lst, b_len_tup, k_enumT_str, k_enum_lst, okMu_app, okMu_ext, okL_rng1, okL_rng2, andD_int, xorD_int, negD_int, ltD_int, leD_int, gtD_int, geD_int, eqD_int, eqD_str, eqD_bl, neD_int, neD_str, neD_bl, ixL_0, ixL_1, ixL_2, ixL_3, ixT_0, ixT_1, ixT_2, ixT_3, ixN_0, ixN_1, ixN_2, ixN_3, isD_non, isntD_non, isN, b_int_int, b_int_bl, b_max2_int, b_min2_int, b_abs_int, m_count_str, listD_lst, listD_slst, tupD, strD, decide_eq_true_eq, decide_eq_false_iff_not, decide_true, decide_false, eq_self, and_true, true_and, if_true, if_false, Bool.false_eq_true, ↓reduceIte, Nat.reduceAdd, Nat.reduceSub, Nat.reduceLT, ite_true, ite_false, Bool.not_true, Bool.not_false, Int.toNat_natCast, Int.reduceLT, Int.reduceLE, Int.reduceToNat, Int.reduceMul, Int.reduceAdd, Int.reduceSub, Int.reduceEq, Nat.reduceLeDiff, Nat.reduceMul, List.lookup_cons_self, eq3]
  obtain ⟨d, ds, e, rfl⟩ := okF_eq h
  exact ⟨ds, e⟩
end
end
def splaw_any (K : PySem.W.Frag) : Sp := fun vs H Q _ => ∃ (a : Addr) (ns : List Int), vs = [.ref a] ∧ SqL K H a (ns.map V.int) ∧ ns.length ≤ 63 ∧ ∀ H', Q (.bl true) H'
theorem ok_law_any {P : Program} {w : World} {K : PySem.W.Frag} {mg : Str → Option Value} {base : Heap} {Z : Ads} (T : Top K mg Z) : Lk.FnG P w K mg base 7 Z.f_law Z.d_law ["script"] (splaw_any K) :=
  law_end (hK := rfl) (ok_law T) law_true
theorem all_mk {l : PySem.W.OpenLaw} {w : World} {K : PySem.W.Frag} {h : Heap} {mg : Str → Option Value} {fa f_law_bag f_law_pick f_law_key f_law_words f_count_x_ahead f_is_integer f_is_between f_check_bits f_are_integers f_is_cell f_check_cell f_count_ahead f_law_right f_law_some_cell f_law C_InvalidBits C_InvalidCell : Addr} (X : K.In h) (G : h.Ns mainGlobals mg) (hfa : mg "law" = some (.ref fa))
    {oc_law_bag kV_law_bag dc_law_bag pm_law_bag cd_law_bag ct_law_bag oc_law_pick kV_law_pick dc_law_pick pm_law_pick cd_law_pick ct_law_pick oc_law_key kV_law_key dc_law_key pm_law_key cd_law_key ct_law_key oc_law_words kV_law_words dc_law_words pm_law_words cd_law_words ct_law_words oc_count_x_ahead kV_count_x_ahead dc_count_x_ahead pm_count_x_ahead cd_count_x_ahead ct_count_x_ahead oc_is_integer kV_is_integer dc_is_integer pm_is_integer cd_is_integer ct_is_integer oc_is_between kV_is_between dc_is_between pm_is_between cd_is_between ct_is_between oc_check_bits kV_check_bits dc_check_bits pm_check_bits cd_check_bits ct_check_bits oc_are_integers kV_are_integers dc_are_integers pm_are_integers cd_are_integers ct_are_integers oc_is_cell kV_is_cell dc_is_cell pm_is_cell cd_is_cell ct_is_cell oc_check_cell kV_check_cell dc_check_cell pm_check_cell cd_check_cell ct_check_cell oc_count_ahead kV_count_ahead dc_count_ahead pm_count_ahead cd_count_ahead ct_count_ahead oc_law_right kV_law_right dc_law_right pm_law_right cd_law_right ct_law_right oc_law_some_cell kV_law_some_cell dc_law_some_cell pm_law_some_cell cd_law_some_cell ct_law_some_cell oc_law kV_law dc_law pm_law cd_law ct_law : Value} {od_law_bag an_law_bag od_law_pick an_law_pick od_law_key an_law_key od_law_words an_law_words od_count_x_ahead an_count_x_ahead od_is_integer an_is_integer od_is_between an_is_between od_check_bits an_check_bits od_are_integers an_are_integers od_is_cell an_is_cell od_check_cell an_check_cell od_count_ahead an_count_ahead od_law_right an_law_right od_law_some_cell an_law_some_cell od_law an_law : Option Addr} {sl_law_bag sl_law_pick sl_law_key sl_law_words sl_count_x_ahead sl_is_integer sl_is_between sl_check_bits sl_are_integers sl_is_cell sl_check_cell sl_count_ahead sl_law_right sl_law_some_cell sl_law : Array (Option Value)} {t_MOST_BITS : Tok}
    (a_law_bag : PySem.W.nsIn K mainGlobals "_law_bag" = some (some (.ref f_law_bag)))
    (l_law_bag : K.lookup f_law_bag = some ⟨oc_law_bag, od_law_bag, .func (PySem.W.fnOf "_law_bag" "_law_bag" (defArgs slaw_bag) (defBody slaw_bag) (defScope slaw_bag) .none kV_law_bag dc_law_bag pm_law_bag an_law_bag cd_law_bag ct_law_bag), sl_law_bag⟩)
    (c_law_bag : PySem.W.codeIn K cd_law_bag "_law_bag" = true)
    (k_law_bag : PySem.W.keepIn K (.ref f_law_bag) = true)
    (a_law_pick : PySem.W.nsIn K mainGlobals "_law_pick" = some (some (.ref f_law_pick)))
    (l_law_pick : K.lookup f_law_pick = some ⟨oc_law_pick, od_law_pick, .func (PySem.W.fnOf "_law_pick" "_law_pick" (defArgs slaw_pick) (defBody slaw_pick) (defScope slaw_pick) .none kV_law_pick dc_law_pick pm_law_pick an_law_pick cd_law_pick ct_law_pick), sl_law_pick⟩)
    (c_law_pick : PySem.W.codeIn K cd_law_pick "_law_pick" = true)
    (k_law_pick : PySem.W.keepIn K (.ref f_law_pick) = true)
    (a_law_key : PySem.W.nsIn K mainGlobals "_law_key" = some (some (.ref f_law_key)))
    (l_law_key : K.lookup f_law_key = some ⟨oc_law_key, od_law_key, .func (PySem.W.fnOf "_law_key" "_law_key" (defArgs slaw_key) (defBody slaw_key) (defScope slaw_key) .none kV_law_key dc_law_key pm_law_key an_law_key cd_law_key ct_law_key), sl_law_key⟩)
    (c_law_key : PySem.W.codeIn K cd_law_key "_law_key" = true)
    (k_law_key : PySem.W.keepIn K (.ref f_law_key) = true)
    (a_law_words : PySem.W.nsIn K mainGlobals "_law_words" = some (some (.ref f_law_words)))
    (l_law_words : K.lookup f_law_words = some ⟨oc_law_words, od_law_words, .func (PySem.W.fnOf "_law_words" "_law_words" (defArgs slaw_words) (defBody slaw_words) (defScope slaw_words) .none kV_law_words dc_law_words pm_law_words an_law_words cd_law_words ct_law_words), sl_law_words⟩)
    (c_law_words : PySem.W.codeIn K cd_law_words "_law_words" = true)
    (k_law_words : PySem.W.keepIn K (.ref f_law_words) = true)
    (a_count_x_ahead : PySem.W.nsIn K mainGlobals "_count_x_ahead" = some (some (.ref f_count_x_ahead)))
    (l_count_x_ahead : K.lookup f_count_x_ahead = some ⟨oc_count_x_ahead, od_count_x_ahead, .func (PySem.W.fnOf "_count_x_ahead" "_count_x_ahead" (defArgs scount_x_ahead) (defBody scount_x_ahead) (defScope scount_x_ahead) .none kV_count_x_ahead dc_count_x_ahead pm_count_x_ahead an_count_x_ahead cd_count_x_ahead ct_count_x_ahead), sl_count_x_ahead⟩)
    (c_count_x_ahead : PySem.W.codeIn K cd_count_x_ahead "_count_x_ahead" = true)
    (k_count_x_ahead : PySem.W.keepIn K (.ref f_count_x_ahead) = true)
    (a_is_integer : PySem.W.nsIn K mainGlobals "is_integer" = some (some (.ref f_is_integer)))
    (l_is_integer : K.lookup f_is_integer = some ⟨oc_is_integer, od_is_integer, .func (PySem.W.fnOf "is_integer" "is_integer" (defArgs sis_integer) (defBody sis_integer) (defScope sis_integer) .none kV_is_integer dc_is_integer pm_is_integer an_is_integer cd_is_integer ct_is_integer), sl_is_integer⟩)
    (c_is_integer : PySem.W.codeIn K cd_is_integer "is_integer" = true)
    (k_is_integer : PySem.W.keepIn K (.ref f_is_integer) = true)
    (a_is_between : PySem.W.nsIn K mainGlobals "is_between" = some (some (.ref f_is_between)))
    (l_is_between : K.lookup f_is_between = some ⟨oc_is_between, od_is_between, .func (PySem.W.fnOf "is_between" "is_between" (defArgs sis_between) (defBody sis_between) (defScope sis_between) .none kV_is_between dc_is_between pm_is_between an_is_between cd_is_between ct_is_between), sl_is_between⟩)
    (c_is_between : PySem.W.codeIn K cd_is_between "is_between" = true)
    (k_is_between : PySem.W.keepIn K (.ref f_is_between) = true)
    (a_check_bits : PySem.W.nsIn K mainGlobals "check_bits" = some (some (.ref f_check_bits)))
    (l_check_bits : K.lookup f_check_bits = some ⟨oc_check_bits, od_check_bits, .func (PySem.W.fnOf "check_bits" "check_bits" (defArgs scheck_bits) (defBody scheck_bits) (defScope scheck_bits) .none kV_check_bits dc_check_bits pm_check_bits an_check_bits cd_check_bits ct_check_bits), sl_check_bits⟩)
    (c_check_bits : PySem.W.codeIn K cd_check_bits "check_bits" = true)
    (k_check_bits : PySem.W.keepIn K (.ref f_check_bits) = true)
    (a_are_integers : PySem.W.nsIn K mainGlobals "are_integers" = some (some (.ref f_are_integers)))
    (l_are_integers : K.lookup f_are_integers = some ⟨oc_are_integers, od_are_integers, .func (PySem.W.fnOf "are_integers" "are_integers" (defArgs sare_integers) (defBody sare_integers) (defScope sare_integers) .none kV_are_integers dc_are_integers pm_are_integers an_are_integers cd_are_integers ct_are_integers), sl_are_integers⟩)
    (c_are_integers : PySem.W.codeIn K cd_are_integers "are_integers" = true)
    (k_are_integers : PySem.W.keepIn K (.ref f_are_integers) = true)
    (a_is_cell : PySem.W.nsIn K mainGlobals "is_cell" = some (some (.ref f_is_cell)))
    (l_is_cell : K.lookup f_is_cell = some ⟨oc_is_cell, od_is_cell, .func (PySem.W.fnOf "is_cell" "is_cell" (defArgs sis_cell) (defBody sis_cell) (defScope sis_cell) .none kV_is_cell dc_is_cell pm_is_cell an_is_cell cd_is_cell ct_is_cell), sl_is_cell⟩)
    (c_is_cell : PySem.W.codeIn K cd_is_cell "is_cell" = true)
    (k_is_cell : PySem.W.keepIn K (.ref f_is_cell) = true)
    (a_check_cell : PySem.W.nsIn K mainGlobals "check_cell" = some (some (.ref f_check_cell)))
    (l_check_cell : K.lookup f_check_cell = some ⟨oc_check_cell, od_check_cell, .func (PySem.W.fnOf "check_cell" "check_cell" (defArgs scheck_cell) (defBody scheck_cell) (defScope scheck_cell) .none kV_check_cell dc_check_cell pm_check_cell an_check_cell cd_check_cell ct_check_cell), sl_check_cell⟩)
    (c_check_cell : PySem.W.codeIn K cd_check_cell "check_cell" = true)
    (k_check_cell : PySem.W.keepIn K (.ref f_check_cell) = true)
    (a_count_ahead : PySem.W.nsIn K mainGlobals "count_ahead" = some (some (.ref f_count_ahead)))
    (l_count_ahead : K.lookup f_count_ahead = some ⟨oc_count_ahead, od_count_ahead, .func (PySem.W.fnOf "count_ahead" "count_ahead" (defArgs scount_ahead) (defBody scount_ahead) (defScope scount_ahead) .none kV_count_ahead dc_count_ahead pm_count_ahead an_count_ahead cd_count_ahead ct_count_ahead), sl_count_ahead⟩)
    (c_count_ahead : PySem.W.codeIn K cd_count_ahead "count_ahead" = true)
    (k_count_ahead : PySem.W.keepIn K (.ref f_count_ahead) = true)
    (a_law_right : PySem.W.nsIn K mainGlobals "_law_right" = some (some (.ref f_law_right)))
    (l_law_right : K.lookup f_law_right = some ⟨oc_law_right, od_law_right, .func (PySem.W.fnOf "_law_right" "_law_right" (defArgs slaw_right) (defBody slaw_right) (defScope slaw_right) .none kV_law_right dc_law_right pm_law_right an_law_right cd_law_right ct_law_right), sl_law_right⟩)
    (c_law_right : PySem.W.codeIn K cd_law_right "_law_right" = true)
    (k_law_right : PySem.W.keepIn K (.ref f_law_right) = true)
    (a_law_some_cell : PySem.W.nsIn K mainGlobals "_law_some_cell" = some (some (.ref f_law_some_cell)))
    (l_law_some_cell : K.lookup f_law_some_cell = some ⟨oc_law_some_cell, od_law_some_cell, .func (PySem.W.fnOf "_law_some_cell" "_law_some_cell" (defArgs slaw_some_cell) (defBody slaw_some_cell) (defScope slaw_some_cell) .none kV_law_some_cell dc_law_some_cell pm_law_some_cell an_law_some_cell cd_law_some_cell ct_law_some_cell), sl_law_some_cell⟩)
    (c_law_some_cell : PySem.W.codeIn K cd_law_some_cell "_law_some_cell" = true)
    (k_law_some_cell : PySem.W.keepIn K (.ref f_law_some_cell) = true)
    (a_law : PySem.W.nsIn K mainGlobals "law" = some (some (.ref f_law)))
    (l_law : K.lookup f_law = some ⟨oc_law, od_law, .func (PySem.W.fnOf "law" "law" (defArgs slaw) (defBody slaw) (defScope slaw) .none kV_law dc_law pm_law an_law cd_law ct_law), sl_law⟩)
    (c_law : PySem.W.codeIn K cd_law "law" = true)
    (k_law : PySem.W.keepIn K (.ref f_law) = true)
    (a_InvalidBits : PySem.W.nsIn K mainGlobals "InvalidBits" = some (some (.ref C_InvalidBits)))
    (a_InvalidCell : PySem.W.nsIn K mainGlobals "InvalidCell" = some (some (.ref C_InvalidCell)))
    (x_InvalidBits : PySem.W.excIn K C_InvalidBits [.type "ValueError", .type "Exception", .type "BaseException", .type "object"] "ValueError.__new__" = true)
    (k_InvalidBits : PySem.W.keepIn K (.ref C_InvalidBits) = true)
    (rb_InvalidBits : PySem.W.subIn K (.ref C_InvalidBits) (.type "BaseException") = some true)
    (rt_InvalidBits : PySem.W.typeIn K (.ref C_InvalidBits) = some (.type "type"))
    (x_InvalidCell : PySem.W.excIn K C_InvalidCell [.type "ValueError", .type "Exception", .type "BaseException", .type "object"] "ValueError.__new__" = true)
    (k_InvalidCell : PySem.W.keepIn K (.ref C_InvalidCell) = true)
    (rb_InvalidCell : PySem.W.subIn K (.ref C_InvalidCell) (.type "BaseException") = some true)
    (rt_InvalidCell : PySem.W.typeIn K (.ref C_InvalidCell) = some (.type "type"))
    (z_all : PySem.W.nsIn K mainGlobals "all" = some none)
    (z_bool : PySem.W.nsIn K mainGlobals "bool" = some none)
    (z_enumerate : PySem.W.nsIn K mainGlobals "enumerate" = some none)
    (z_int : PySem.W.nsIn K mainGlobals "int" = some none)
    (z_isinstance : PySem.W.nsIn K mainGlobals "isinstance" = some none)
    (z_len : PySem.W.nsIn K mainGlobals "len" = some none)
    (z_max : PySem.W.nsIn K mainGlobals "max" = some none)
    (z_range : PySem.W.nsIn K mainGlobals "range" = some none)
    (z_repr : PySem.W.nsIn K mainGlobals "repr" = some none)
    (z_sum : PySem.W.nsIn K mainGlobals "sum" = some none)
    (z_tuple : PySem.W.nsIn K mainGlobals "tuple" = some none)
    (v_MOST_BITS : PySem.W.nsIn K mainGlobals "MOST_BITS" = some (some (.int 100 t_MOST_BITS)))
    (v_comb : PySem.W.nsIn K mainGlobals "comb" = some (some (.builtin "math.comb"))) :
    ∃ (Z : Unit) (fd : FuncData), (∀ (s : Shared) (v : Value), BindsTo s fd ⟨[v], []⟩ [("script", v)]) ∧ ∀ base : Heap, K.In base → base.Ns mainGlobals mg → Lk.FnG l.prog w K mg base 7 fa fd ["script"] (splaw_any K) := by
  have e := hfa.symm.trans (PySem.W.mg_of X G a_law)
  cases e
  have F_law_bag := L2.fun_mk (st := slaw_bag) l_law_bag c_law_bag k_law_bag
  have b_law_bag := F_law_bag.binds (ps := ["cell"]) fun _ _ _ _ _ _ us hl => match us, hl with | [_], _ => rfl
  have F_law_pick := L2.fun_mk (st := slaw_pick) l_law_pick c_law_pick k_law_pick
  have b_law_pick := F_law_pick.binds (ps := ["bag", "many"]) fun _ _ _ _ _ _ us hl => match us, hl with | [_, _], _ => rfl
  have F_law_key := L2.fun_mk (st := slaw_key) l_law_key c_law_key k_law_key
  have b_law_key := F_law_key.binds (ps := ["word", "x", "y"]) fun _ _ _ _ _ _ us hl => match us, hl with | [_, _, _], _ => rfl
  have F_law_words := L2.fun_mk (st := slaw_words) l_law_words c_law_words k_law_words
  have b_law_words := F_law_words.binds (ps := ["x_bits", "y_bits"]) fun _ _ _ _ _ _ us hl => match us, hl with | [_, _], _ => rfl
  have F_count_x_ahead := L2.fun_mk (st := scount_x_ahead) l_count_x_ahead c_count_x_ahead k_count_x_ahead
  have b_count_x_ahead := F_count_x_ahead.binds (ps := ["x_bits", "y_bits", "x_place", "y_place"]) fun _ _ _ _ _ _ us hl => match us, hl with | [_, _, _, _], _ => rfl
  have F_is_integer := L2.fun_mk (st := sis_integer) l_is_integer c_is_integer k_is_integer
  have b_is_integer := F_is_integer.binds (ps := ["value"]) fun _ _ _ _ _ _ us hl => match us, hl with | [_], _ => rfl
  have F_is_between := L2.fun_mk (st := sis_between) l_is_between c_is_between k_is_between
  have b_is_between := F_is_between.binds (ps := ["value", "low", "high"]) fun _ _ _ _ _ _ us hl => match us, hl with | [_, _, _], _ => rfl
  have F_check_bits := L2.fun_mk (st := scheck_bits) l_check_bits c_check_bits k_check_bits
  have b_check_bits := F_check_bits.binds (ps := ["x_bits", "y_bits"]) fun _ _ _ _ _ _ us hl => match us, hl with | [_, _], _ => rfl
  have F_are_integers := L2.fun_mk (st := sare_integers) l_are_integers c_are_integers k_are_integers
  have b_are_integers := F_are_integers.binds (ps := ["value", "many"]) fun _ _ _ _ _ _ us hl => match us, hl with | [_, _], _ => rfl
  have F_is_cell := L2.fun_mk (st := sis_cell) l_is_cell c_is_cell k_is_cell
  have b_is_cell := F_is_cell.binds (ps := ["value", "x_bits", "y_bits"]) fun _ _ _ _ _ _ us hl => match us, hl with | [_, _, _], _ => rfl
  have F_check_cell := L2.fun_mk (st := scheck_cell) l_check_cell c_check_cell k_check_cell
  have b_check_cell := F_check_cell.binds (ps := ["cell", "x_bits", "y_bits"]) fun _ _ _ _ _ _ us hl => match us, hl with | [_, _, _], _ => rfl
  have F_count_ahead := L2.fun_mk (st := scount_ahead) l_count_ahead c_count_ahead k_count_ahead
  have b_count_ahead := F_count_ahead.binds (ps := ["x_bits", "y_bits", "cell", "other"]) fun _ _ _ _ _ _ us hl => match us, hl with | [_, _, _, _], _ => rfl
  have F_law_right := L2.fun_mk (st := slaw_right) l_law_right c_law_right k_law_right
  have b_law_right := F_law_right.binds (ps := ["x_bits", "y_bits", "cell", "other"]) fun _ _ _ _ _ _ us hl => match us, hl with | [_, _, _, _], _ => rfl
  have F_law_some_cell := L2.fun_mk (st := slaw_some_cell) l_law_some_cell c_law_some_cell k_law_some_cell
  have b_law_some_cell := F_law_some_cell.binds (ps := ["bag", "x_bits", "y_bits"]) fun _ _ _ _ _ _ us hl => match us, hl with | [_, _, _], _ => rfl
  have F_law := L2.fun_mk (st := slaw) l_law c_law k_law
  have b_law := F_law.binds (ps := ["script"]) fun _ _ _ _ _ _ us hl => match us, hl with | [_], _ => rfl
  have T : Top K mg ⟨C_InvalidBits, C_InvalidCell, f_law_bag, _, f_law_pick, _, f_law_key, _, f_law_words, _, f_count_x_ahead, _, f_is_integer, _, f_is_between, _, f_check_bits, _, f_are_integers, _, f_is_cell, _, f_check_cell, _, f_count_ahead, _, f_law_right, _, f_law_some_cell, _, fa, _⟩ := ⟨F_law_bag, b_law_bag, PySem.W.mg_of X G a_law_bag, F_law_pick, b_law_pick, PySem.W.mg_of X G a_law_pick, F_law_key, b_law_key, PySem.W.mg_of X G a_law_key, F_law_words, b_law_words, PySem.W.mg_of X G a_law_words, F_count_x_ahead, b_count_x_ahead, PySem.W.mg_of X G a_count_x_ahead, F_is_integer, b_is_integer, PySem.W.mg_of X G a_is_integer, F_is_between, b_is_between, PySem.W.mg_of X G a_is_between, F_check_bits, b_check_bits, PySem.W.mg_of X G a_check_bits, F_are_integers, b_are_integers, PySem.W.mg_of X G a_are_integers, F_is_cell, b_is_cell, PySem.W.mg_of X G a_is_cell, F_check_cell, b_check_cell, PySem.W.mg_of X G a_check_cell, F_count_ahead, b_count_ahead, PySem.W.mg_of X G a_count_ahead, F_law_right, b_law_right, PySem.W.mg_of X G a_law_right, F_law_some_cell, b_law_some_cell, PySem.W.mg_of X G a_law_some_cell, F_law, b_law, PySem.W.mg_of X G a_law, PySem.W.mg_of X G a_InvalidBits, PySem.W.mg_of X G a_InvalidCell, x_InvalidBits, k_InvalidBits, rb_InvalidBits, rt_InvalidBits, x_InvalidCell, k_InvalidCell, rb_InvalidCell, rt_InvalidCell, PySem.W.mg_none_of X G z_all, PySem.W.mg_none_of X G z_bool, PySem.W.mg_none_of X G z_enumerate, PySem.W.mg_none_of X G z_int, PySem.W.mg_none_of X G z_isinstance, PySem.W.mg_none_of X G z_len, PySem.W.mg_none_of X G z_max, PySem.W.mg_none_of X G z_range, PySem.W.mg_none_of X G z_repr, PySem.W.mg_none_of X G z_sum, PySem.W.mg_none_of X G z_tuple, ⟨_, PySem.W.mg_of X G v_MOST_BITS⟩, PySem.W.mg_of X G v_comb⟩
  exact ⟨(), PySem.W.fnOf "law" "law" (defArgs slaw) (defBody slaw) (defScope slaw) .none kV_law dc_law pm_law an_law cd_law ct_law, fun s v => .of_eq rfl, fun base _ _ => ok_law_any (P := l.prog) (w := w) (base := base) T⟩
theorem all_mk2 {l : PySem.W.OpenLaw} {w : World} {K : PySem.W.Frag} {mg : Str → Option Value} {fa : Addr} (h : ∃ (Z : Unit) (fd : FuncData), (∀ (s : Shared) (v : Value), BindsTo s fd ⟨[v], []⟩ [("script", v)]) ∧ ∀ base : Heap, K.In base → base.Ns mainGlobals mg → Lk.FnG l.prog w K mg base 7 fa fd ["script"] (splaw_any K)) :
    ∃ fd : FuncData, (∀ (s : Shared) (v : Value), BindsTo s fd ⟨[v], []⟩ [("script", v)]) ∧ ∀ base : Heap, K.In base → base.Ns mainGlobals mg → Lk.FnG l.prog w K mg base 7 fa fd ["script"] (splaw_any K) := by
  obtain ⟨Z, fd, h1, h2⟩ := h
  exact ⟨fd, h1, h2⟩
end Lw
open PySem PySem.W PyProof.Rows
set_option maxHeartbeats 0 in
theorem PySem.Challenge.cw_lacekeys_k27_cells_in_order_by_all_words_holds : PySem.Challenge.rw_lacekeys_k27_cells_in_order_by_all_words.Holds := by
  w_on; o_law; k_head; (case hw => w_witness2)
  k_fill
  refine Lk.walkG (l := PySem.Challenge.rw_lacekeys_k27_cells_in_order_by_all_words) (n := 63) (k := 7) (x := "script") (sp := fun w => Lw.splaw_any _) rfl (by decide) rfl ⟨rfl, by decide, by decide⟩ (fun w h Y => PySem.W.kIn_of Y) ?F (fun _ _ a ns hl _ hS => ⟨a, ns, rfl, hS, hl, fun _ => rfl⟩)
  case F =>
    intro w mg fa h KX G hmg
    refine' Lw.all_mk2 (Lw.all_mk (l := PySem.Challenge.rw_lacekeys_k27_cells_in_order_by_all_words) (w := w) KX G hmg ?a_law_bag ?l_law_bag ?c_law_bag ?k_law_bag ?a_law_pick ?l_law_pick ?c_law_pick ?k_law_pick ?a_law_key ?l_law_key ?c_law_key ?k_law_key ?a_law_words ?l_law_words ?c_law_words ?k_law_words ?a_count_x_ahead ?l_count_x_ahead ?c_count_x_ahead ?k_count_x_ahead ?a_is_integer ?l_is_integer ?c_is_integer ?k_is_integer ?a_is_between ?l_is_between ?c_is_between ?k_is_between ?a_check_bits ?l_check_bits ?c_check_bits ?k_check_bits ?a_are_integers ?l_are_integers ?c_are_integers ?k_are_integers ?a_is_cell ?l_is_cell ?c_is_cell ?k_is_cell ?a_check_cell ?l_check_cell ?c_check_cell ?k_check_cell ?a_count_ahead ?l_count_ahead ?c_count_ahead ?k_count_ahead ?a_law_right ?l_law_right ?c_law_right ?k_law_right ?a_law_some_cell ?l_law_some_cell ?c_law_some_cell ?k_law_some_cell ?a_law ?l_law ?c_law ?k_law ?a_InvalidBits ?a_InvalidCell ?x_InvalidBits ?k_InvalidBits ?rb_InvalidBits ?rt_InvalidBits ?x_InvalidCell ?k_InvalidCell ?rb_InvalidCell ?rt_InvalidCell ?z_all ?z_bool ?z_enumerate ?z_int ?z_isinstance ?z_len ?z_max ?z_range ?z_repr ?z_sum ?z_tuple ?v_MOST_BITS ?v_comb)
    (case a_law_bag => k_is)
    (case l_law_bag => k_is)
    (case c_law_bag => k_is)
    (case k_law_bag => k_is)
    (case a_law_pick => k_is)
    (case l_law_pick => k_is)
    (case c_law_pick => k_is)
    (case k_law_pick => k_is)
    (case a_law_key => k_is)
    (case l_law_key => k_is)
    (case c_law_key => k_is)
    (case k_law_key => k_is)
    (case a_law_words => k_is)
    (case l_law_words => k_is)
    (case c_law_words => k_is)
    (case k_law_words => k_is)
    (case a_count_x_ahead => k_is)
    (case l_count_x_ahead => k_is)
    (case c_count_x_ahead => k_is)
    (case k_count_x_ahead => k_is)
    (case a_is_integer => k_is)
    (case l_is_integer => k_is)
    (case c_is_integer => k_is)
    (case k_is_integer => k_is)
    (case a_is_between => k_is)
    (case l_is_between => k_is)
    (case c_is_between => k_is)
    (case k_is_between => k_is)
    (case a_check_bits => k_is)
    (case l_check_bits => k_is)
    (case c_check_bits => k_is)
    (case k_check_bits => k_is)
    (case a_are_integers => k_is)
    (case l_are_integers => k_is)
    (case c_are_integers => k_is)
    (case k_are_integers => k_is)
    (case a_is_cell => k_is)
    (case l_is_cell => k_is)
    (case c_is_cell => k_is)
    (case k_is_cell => k_is)
    (case a_check_cell => k_is)
    (case l_check_cell => k_is)
    (case c_check_cell => k_is)
    (case k_check_cell => k_is)
    (case a_count_ahead => k_is)
    (case l_count_ahead => k_is)
    (case c_count_ahead => k_is)
    (case k_count_ahead => k_is)
    (case a_law_right => k_is)
    (case l_law_right => k_is)
    (case c_law_right => k_is)
    (case k_law_right => k_is)
    (case a_law_some_cell => k_is)
    (case l_law_some_cell => k_is)
    (case c_law_some_cell => k_is)
    (case k_law_some_cell => k_is)
    (case a_law => k_is)
    (case l_law => k_is)
    (case c_law => k_is)
    (case k_law => k_is)
    (case a_InvalidBits => k_is)
    (case a_InvalidCell => k_is)
    (case x_InvalidBits => k_exc)
    (case k_InvalidBits => k_is)
    (case rb_InvalidBits => k_is)
    (case rt_InvalidBits => k_is)
    (case x_InvalidCell => k_exc)
    (case k_InvalidCell => k_is)
    (case rb_InvalidCell => k_is)
    (case rt_InvalidCell => k_is)
    (case z_all => k_is)
    (case z_bool => k_is)
    (case z_enumerate => k_is)
    (case z_int => k_is)
    (case z_isinstance => k_is)
    (case z_len => k_is)
    (case z_max => k_is)
    (case z_range => k_is)
    (case z_repr => k_is)
    (case z_sum => k_is)
    (case z_tuple => k_is)
    (case v_MOST_BITS => k_is)
    (case v_comb => k_is)

