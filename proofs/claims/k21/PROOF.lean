import PyProof.Rows.All
import Wide.All
import OpenK.AllK
import Wide.FinOn
import HandS.ForMost
import HandS.Wide
import HandS.IsInst
import PyProof.FString3
import PyProof.ReprRoads
import PyProof.Rows.StrIntSpec
import PyProof.Rows.RegReprOcc
import HandS.Walk
import HandS.Zip0
import KE.GoesEnum
import HandS.Strs
import PyProof.ReprLen
import PySem.Challenge.RW_xorbanks_k21_banks_of_addresses
set_option Elab.async false
set_option maxRecDepth 100000
set_option maxHeartbeats 4000000
/-! Rules of my own: powers of great ints, {n:b}, repr of data, defs that know their guards. -/
namespace G
open PySem PySem.Spec PyProof.Rows L2
open PySem.Builtin PySem.Builtin.Str PySem.Builtin.Int PySem.Builtin.Float

def CPowW (i j : Int) : Prop := 0 ≤ j ∧ (Builtin.Int.intBits i : Int) * j ≤ 2 ^ 27
theorem op_powW {X : Cx} : OpR X (binaryOp .Pow) (rI CPowW fun i j => .int (i ^ j.toNat)) :=
  opI fun _ _ _ _ _ _ _ hc q => pow_int hc.1 hc.2 q

/-! ### the binary digits of a number as a text -/
def binL (n : Nat) : List Nat := (Nat.toDigits 2 n).map Char.toNat
def binText (n : Nat) : Str := ⟨(binL n).toArray⟩

theorem binL_ne (n : Nat) : binL n ≠ [] := by
  intro e
  have h := congrArg List.length e
  have h2 := tDigits_len_ge 2 n
  unfold binL at h
  rw [List.length_map] at h
  simp at h
theorem intField_plain {ds : List Nat} {g : Nat} (h : ds ≠ []) : intField' { align := 62, type := some 98 } false [] ds [] g = ⟨ds.toArray⟩ := by
  cases ds with
  | nil => exact absurd rfl h
  | cons d ds =>
    have e : ((-1 : Int) - (0 + 0 + 0) - ((d :: ds).length : Nat)).toNat = 0 := by
      rw [List.length_cons]
      omega
    unfold intField'
    simp
    omega

theorem gives_b (n : Nat) (t u : Tok) : Gives (Builtin.«int.__format__» ⟨[.int (n : Int) t, .str (Str.ofString "b") u], []⟩) (.str (binText n)) := by
  intro prog w A R s hq
  unfold Builtin.«int.__format__»
  have hne : ((Str.ofString "b").length == 0) = false := by decide +kernel
  have hasc : (((Str.ofString "b").cps.toList.drop 1).any (· ≥ 128) || ((Str.ofString "b").cps.getD 0 0 ≥ 128 && !([60, 62, 61, 94] : List Nat).contains ((Str.ofString "b").cps.getD 1 0))) = false := by decide +kernel
  simp only [selfAndOne, noKeywords, Int.intOfSelf, asInt?, asStr?, List.isEmpty_nil, if_true, pure_bind, bind_pure, bind_assoc, hne, hasc, Bool.false_eq_true, if_false,
    show (Value.str (Str.ofString "b") u == Value.none) = false from rfl]
  refine wpAny_bind (wpAny_typeNameOf (T := "str") (typeIs_str _ _ _) (by decide) fun _ => ?_)
  refine wpAny_bind (wpAny_typeNameOfCut_int ?_)
  have hp : ∃ f, parseFormatSpec (Str.ofString "b").cps.toList "int" 62 = .ok f ∧ f = { align := 62, type := some 98 } := ⟨_, rfl, by rfl⟩
  obtain ⟨f, hp, hf⟩ := hp
  rw [hp]
  dsimp only
  subst hf
  rw [if_pos (by decide)]
  show wpAny _ _ (retStr (intField' { align := 62, type := some 98 } (decide ((n : Int) < 0)) [] (binL n) [] 4)) _ _ _
  rw [show decide ((n : Int) < 0) = false from decide_eq_false (by omega), intField_plain (binL_ne n)]
  exact gives_retStr (binText n) prog w A R s hq

/-- {n:b} -/
def tFmtB (te : TE) : TE := fun σ H Q => te σ H fun x H1 => ∃ n : Nat, x = .int (n : Int) ∧ n < 2 ^ 2000 ∧ Q (.str (binText n)) H1
theorem binText_len {n k : Nat} (hk : 1 ≤ k) (h : n < 2 ^ k) : (binText n).length ≤ k := by
  have := toDigits_len_pow (b := 2) (by decide) hk h
  show (binL n).toArray.size ≤ k
  unfold binL
  rw [List.size_toArray, List.length_map]
  exact this
theorem pe_fmtB {X : Cx} {e : Expr} {te : TE} {p1 p2 pos : Pos} (he : PE X e te) :
    PE X (.FormattedValue e (-1) (some (.JoinedStr [.Constant (.str (Str.ofString "b")) 0 p1] p2)) pos) (tFmtB te) := by
  refine ⟨fun pins s σ H Q I h => ?_⟩
  refine wpAny_FormattedValue_spec (thn (he.run pins s σ H _ I h) fun v s1 hv => ?_)
  obtain ⟨x, H1, I1, r1, n, rfl, hn, q⟩ := hv
  obtain ⟨t, rfl⟩ := r1
  refine JoinedStr_one (wpAny_Constant_str ?_)
  refine ⟨_, _, rfl, ?_⟩
  exact wpAny_formatField_spec (by decide +kernel) (fun s' => typeIs_int s' _ _) F.slot_int_format F.entry_int_format F.args_int_format_2 (fun u => gives_b n t u)
    ⟨.str (binText n), H1, (I1.tok _).tok _, ⟨_, rfl⟩, q⟩ (by decide +kernel) (Nat.le_trans (binText_len (k := 2000) (by decide) hn) (by rw [sizeLine_eq]; decide))

/-! ### repr of data: wants that nothing is being shown around -/
theorem call_repr_data {X : Cx} {k : Nat} (hg : X.A.guards = some []) (hr : Room k X.A) :
    CallR X (.builtin "repr") (fun xs H Q => ∃ (p : Addr) (d : PyData), xs = [.ref p] ∧ Dp X.K H (.ref p) d ∧ d.showable = true ∧ d.hasDict = false ∧ d.depth ≤ 60 ∧ d.shown.length ≤ sizeLine ∧ Q (.str d.shown) H) := by
  intro pins s σ H xs us Q I r h
  obtain ⟨p, d, rfl, hd, hs, hn, hdp, hsz, q⟩ := h
  obtain ⟨u, rfl, hu⟩ := vals1 r
  obtain ⟨as, rd⟩ := Dp.reads I d _ u hd hu
  cases (show u = Value.ref p from hu)
  have hU := hr.units
  refine repr_of_reads' rd hs (fun z => by rw [hn] at z; cases z) hg (by omega) (fun b o e => e) (fun h' u tk hk => ?_) hsz
  exact ⟨.str d.shown, H, I.kept (t' := tk) hk, ⟨_, rfl⟩, q⟩

/-! ### f(k = v, ..), no argument by position -/
section
variable {X : Cx} {CX : CXT} {k : Nat} {f : Addr} {fd : FuncData} {ps ks : List Str} {sp : Sp} {E : XK} {x : Str} {p pos : Pos} {kws : List Keyword} {tk : TA} {g : List Value → List Value → List Value} {gV : List V → List V → List V}
theorem pe_callK0 (F : FnOk X.prog X.w X.K X.mg X.base CX k f fd ps sp) (hr : Room k X.A) (hg : Gl X x) (hm : X.mg x = some (.ref f)) (hk : PySem.W.keepIn X.K (.ref f) = true)
    (hb : KBinds X.K fd ps ks g gV) (hx : Passes CX X E) (hkw : PK X kws tk) (hall : (backToKw pos (keywordEach kws X.env)).all (·.1.isSome) = true := by rfl)
    (hks : (backToKw pos (keywordEach kws X.env)).filterMap (·.1) = ks := by rfl) (hdb : (x == ("__debug__" : Str)) = false := by decide)
    (hpl : (backToKw pos (keywordEach kws X.env)).any (·.1.isNone) = false := by rfl) :
    PE X (.Call (.Name x p) [] kws pos) (tCallK sp gV E tNil tk) := by
  refine ⟨fun pins s σ H Q I h => ?_⟩
  refine wpAny_Call_Name_kw (ld_glob I hg hm ?_ hdb)
  refine PySem.W.callWith_KW0 (h₀ := X.base) I.ok.mod.kin hk hall (thn (hkw.run pos pins s σ H _ I h) fun ws s2 ⟨zs, H2, I2, rz, q2⟩ => ⟨I2.kIn, ?_⟩) hpl
  rw [hks]
  exact run_fnk F hr hb hx I2 .nil rz q2
end

/-! ### a def of which it is known that nothing is being shown around -/
structure FnG (P : Program) (w : World) (K : PySem.W.Frag) (mg : Str → Option Value) (base : Heap) (k : Nat) (f : Addr) (fd : FuncData) (ps : List Str) (sp : Sp) : Prop where
  len : ∀ vs H Q E, sp vs H Q E → vs.length = ps.length
  run : ∀ (A : Around) (outer : List Env) (s : Shared) (H : Hp) (args : Args) (us : List Value) (vs : List V) (Q : VK) (E : XK), A.guards = some [] → Room k A → Env0 P w K mg base A outer s H →
    BindsTo s fd args (ps.zip us) → Vals vs us → sp vs H Q E → codeAny (model P w) A (.call (.ref f) args) (CR CX0 outer P w H s Q E) s
end G
set_option Elab.async false
set_option maxRecDepth 100000
set_option maxHeartbeats 4000000
namespace G
open PySem PySem.Spec PyProof.Rows L2
section
variable {P : Program} {w : World} {K : PySem.W.Frag} {mg : Str → Option Value} {base : Heap}
theorem FnG.mono {j k : Nat} {f : Addr} {fd : FuncData} {ps : List Str} {sp : Sp} (F : FnG P w K mg base j f fd ps sp) (h : j ≤ k) : FnG P w K mg base k f fd ps sp :=
  ⟨F.len, fun A outer s H args us vs Q E hg hr => F.run A outer s H args us vs Q E hg (hr.mono h)⟩
/-- a def of the text, by its body -/
theorem okG {x qual : Str} {st : Stmt} {f : Addr} {fd : FuncData} {N ps : List Str} {k : Nat} {sp : Sp} (F : Fun K x qual st f fd) (S : FnScope N ps (defScope st)) (len : ∀ vs H Q E, sp vs H Q E → vs.length = ps.length)
    (body : ∀ (cdv : Value) (A : Around) (outer : List Env) (s : Shared) (H : Hp) (vs : List V) (Q : VK) (E : XK), A.guards = some [] → Room k (A.deeper (envOfC qual (defScope st) s.heap.objs.size f cdv)) → sp vs H Q E →
      ∃ t, PSs (cxOf CX0 P w K mg base N qual (defScope st) f cdv A outer s H E).nox (defBody st) t ∧ t { nx := fun _ H' => Q .non H', rt := Q } (start N vs) H) :
    FnG P w K mg base (k + 1) f fd ps sp := by
  obtain ⟨oc, od, kV, doc, pm, an, cdv, ct, osl, efd, lk, hcd⟩ := F.ex
  subst efd
  refine ⟨len, fun A outer s H args us vs Q E hg hr e0 hb r hsp => ?_⟩
  refine Att.call_fn (e0.mod.kin.keeps fun b o z => (e0.bs b o z).1) (e0.mod.nolimit.keeps fun b o z => (e0.bs b o z).1) lk hcd hr.depth hb ?_ (fun s1 x => ?_) S.co S.gen S.kind
  · rw [List.all_eq_true]
    rintro ⟨n, v⟩ hy
    rcases S.par n (List.of_mem_zip hy).1 with q | q
    · show (_ == _ || _) = true
      rw [q]
      rfl
    · show (_ || _ == _) = true
      rw [q]
      rfl
  · obtain ⟨t, ht, hq⟩ := body cdv A outer s H vs Q E hg (hr.deeper _) hsp
    have I := inv_start (CX := CX0) (E := E) S hr.hd e0 (len _ _ _ _ hsp) r x
    refine wpAny_mono (ht.nox.run [] s1 (start N vs) H _ I hq) (fun fl s' hs => ?_) fun e s' hs => hs
    cases fl with
    | ret u =>
      obtain ⟨v, σ', H', J, rv, q⟩ := hs
      exact ⟨v, H', J.os, J.bare, J.base, J.hok, rv, q⟩
    | next =>
      obtain ⟨σ', H', J, q⟩ := hs
      exact ⟨V.non, H', J.os, J.bare, J.base, J.hok, rfl, q⟩
    | brk =>
      obtain ⟨_, _, _, q⟩ := hs
      exact False.elim q
    | cont =>
      obtain ⟨_, _, _, q⟩ := hs
      exact False.elim q
/-- a def that does not mind -/
theorem FnG.of {k : Nat} {f : Addr} {fd : FuncData} {ps : List Str} {sp : Sp} (F : FnOk P w K mg base CX0 k f fd ps sp) : FnG P w K mg base k f fd ps sp :=
  ⟨F.len, fun A outer s H args us vs Q E _ => F.run A outer s H args us vs Q E⟩
end
section
variable {X : Cx} {k : Nat} {f : Addr} {fd : FuncData} {ps : List Str} {sp : Sp} {dvs : List V} {ds : List Value} {x : Str} {p pos : Pos} {e : Expr} {es : List Expr} {t : TA}
theorem pe_callG (F : FnG X.prog X.w X.K X.mg X.base k f fd ps sp) (hgu : X.A.guards = some []) (hr : Room k X.A) (hg : Gl X x) (hm : X.mg x = some (.ref f)) (hk : PySem.W.keepIn X.K (.ref f) = true) (hb : Binds X.K fd ps ds) (hd : Vals dvs ds)
    (ha : PA X (e :: es) t) (hdb : (x == ("__debug__" : Str)) = false := by decide) (he : starEach (e :: es) X.env = (false, eval e X.env) :: starEach es X.env := by rfl)
    (hpl : (backTo pos (starEach es X.env)).any (·.1) = false := by rfl) : PE X (.Call (.Name x p) (e :: es) [] pos) (tCall sp dvs E0 t) := by
  refine ⟨fun pins s σ H Q I h => wpAny_Call_Name_kw (ld_glob I hg hm ?_ hdb)⟩
  refine PySem.W.callWith_K (h₀ := X.base) I.ok.mod.kin hk (thn (ha.run pos pins s σ H _ I h) fun us s1 ⟨vs, H1, I1, r, q⟩ => ⟨I1.kIn, ?_⟩) he hpl
  have r2 : Vals (vs ++ dvs) (us ++ ds) := r.append hd
  refine wpAny_call (codeAny_mono (F.run X.A X.stack s1 H1 ⟨us, []⟩ (us ++ ds) (vs ++ dvs) Q E0 hgu hr I1.env0 (hb s1 us I1.kIn (r2.length.symm.trans (F.len _ _ _ _ q))) r2 q) fun r s' hq => ?_)
  match r, hq with
  | .ok (.ret u), hq => exact I1.after hq
end
/-! ### the law's own call -/
/-- what is tracked ahead of the law: the script, where it is none of the module's own objects -/
def scr (K : PySem.W.Frag) (a : Addr) (vs : List Value) (ns : List Int) : Hp := fun b => if b = a ∧ K.lookup a = none then some (.frz { cls := .type "list", data := .seq vs.toArray } (.lst (ns.map V.int))) else none
theorem scr_or (K : PySem.W.Frag) (a : Addr) (vs : List Value) (ns : List Int) (b : Addr) :
    scr K a vs ns b = none ∨ (b = a ∧ K.lookup a = none ∧ scr K a vs ns b = some (.frz { cls := .type "list", data := .seq vs.toArray } (.lst (ns.map V.int)))) := by
  by_cases h : b = a ∧ K.lookup a = none
  · exact .inr ⟨h.1, h.2, if_pos h⟩
  · exact .inl (if_neg h)
section
variable {P : Program} {w : World} {K : PySem.W.Frag} {mg mb : Str → Option Value} {k : Nat} {fa a : Addr} {fd : FuncData} {x : Str} {sp : Sp} {s₁ : Shared} {vs : List Value} {ns : List Int}
theorem law_runs (KX : K.In s₁.heap) (hns : s₁.heap.Ns mainGlobals mg) (hb : s₁.heap.Ns builtinsNs mb) (hbb : ∀ x : Str, x ≠ "__name__" → mb x = bootBuiltins x) (hlim : s₁.heap.NoLimit) (hg : s₁.gens = #[])
    (ha : s₁.heap.get? a = some { cls := .type "list", data := .seq vs.toArray }) (hi : IntsAre vs ns) (hl : ns.length ≤ sizeLine) (hr : Room k callerA)
    (F : ∀ base : Heap, K.In base → base.Ns mainGlobals mg → FnG P w K mg base k fa fd [x] sp) (hbind : ∀ (s : Shared) (u : Value), BindsTo s fd ⟨[u], []⟩ [(x, u)])
    (hsp : ∀ H : Hp, SqL K H a (ns.map V.int) → sp [.ref a] H (fun v _ => v = .bl true) fun _ _ _ => False) :
    codeAny (model P w) callerA (.call (.ref fa) ⟨[.ref a], []⟩) (fun r s' => r = .ok (.ret (.bool true)) ∧ OldK s₁.heap s'.heap ∧ s'.os = s₁.os ∧ AllBare s'.gens) s₁ := by
  have tell := scr_or K a vs ns
  have rv := vals_ints hi
  have sees : SqL K (scr K a vs ns) a (ns.map V.int) := by
    cases hk : K.lookup a with
    | none => exact .inl (.inr ⟨_, if_pos ⟨rfl, hk⟩⟩)
    | some o =>
      have e := ha.symm.trans (KX a o hk)
      cases e
      exact .inr ⟨_, vs.toArray, _, hk, rfl, rfl, rfl, by rw [List.size_toArray, hi.length]; exact hl, by simpa using rv⟩
  have okH : HOk P w (scr K a vs ns) s₁.heap := fun b u z => by
    rcases tell b with q | ⟨rfl, _, q⟩
    · cases q.symm.trans z
    · cases q.symm.trans z
      exact ⟨ha, by rw [List.length_map]; exact hl, vs, _, rv, ha⟩
  have low : ∀ {b : Addr} {m : Str → Option Value}, s₁.heap.Ns b m → (hidT s₁.heap (scr K a vs ns)).Ns b m := by
    rintro b m ⟨o, es, ep, e, d, r⟩
    refine ⟨o, es, ep, hidT_get e ?_, d, r⟩
    rcases tell b with q | ⟨rfl, _, _⟩
    · exact q
    · cases ha.symm.trans e
      cases d
  have lowK : K.In (hidT s₁.heap (scr K a vs ns)) := fun b o e => hidT_get (KX b o e) (by
    rcases tell b with q | ⟨rfl, z, _⟩
    · exact q
    · cases z.symm.trans e)
  obtain ⟨mc, c1, c2⟩ := hlim
  have e0 : Env0 P w K mg (hidT s₁.heap (scr K a vs ns)) callerA [] s₁ (scr K a vs ns) :=
    { frames := rfl, mod := ⟨lowK, low hns, ⟨mb, low hb, hbb⟩, ⟨mc, low c1, c2⟩⟩, bs := fun b o e => of_hidT e, bsz := Nat.le_of_eq (hidT_size _ _), funs := trivial,
      frf := fun b z => (List.not_mem_nil (show b ∈ ([] : List Addr) from z)).elim, hok := okH, bare := .of_eq hg }
  refine codeAny_mono ((F _ lowK (low hns)).run callerA [] s₁ _ ⟨[.ref a], []⟩ [.ref a] [.ref a] _ _ rfl hr e0 (hbind s₁ (.ref a)) (.cons rfl .nil) (hsp _ sees)) fun r s' h => ?_
  match r, h with
  | .ok (.ret u), ⟨v, H', os, bare, un, hok', r', q⟩ =>
    subst q
    cases (show u = Value.bool true from r')
    refine ⟨rfl, OldK.of_keep fun b o e => ?_, os, bare⟩
    rcases tell b with z | ⟨rfl, _, z⟩
    · exact un.keep b o e z (fun z => List.not_mem_nil (show b ∈ ([] : List Addr) from z)) List.not_mem_nil
    · cases ha.symm.trans e
      exact (hok' b _ (un.frzs b _ _ z)).1
end
theorem walk_G {l : PySem.W.OpenLaw} {n k : Nat} {q : Program} {loose : List Str} {XP : (Str → Option Value) → Heap → Prop} {YP : World → Heap → Prop} {d : DefRec} {K : Params → PySem.W.Frag} {sp : PySem.W.Frag → Sp} {x : Str}
    (hn : l.most = some n) (hn2 : n ≤ sizeLine) (hdf : d.params.defaults = []) (hr : Room k callerA) (hY : ∀ (w : World) (h : Heap), YP w h → (K w.params).In h)
    (F : ∀ (w : World) (mg : Str → Option Value) (fa : Addr) (h : Heap), (K w.params).In h → h.Ns mainGlobals mg → mg d.name = some (.ref fa) →
      ∃ fd : FuncData, (∀ (s : Shared) (u : Value), BindsTo s fd ⟨[u], []⟩ [(x, u)]) ∧ ∀ base : Heap, (K w.params).In base → base.Ns mainGlobals mg → FnG l.prog w (K w.params) mg base k fa fd [x] (sp (K w.params)))
    (hsp : ∀ (K : PySem.W.Frag) (H : Hp) (a : Addr) (ns : List Int), ns.length ≤ n → SqL K H a (ns.map V.int) → sp K [.ref a] H (fun v _ => v = .bl true) fun _ _ _ => False) :
    PySem.W.WalkO q loose XP YP l.row.toRowW d [] (fun f vs => PySem.call f vs) := by
  refine Att.attach_call hn hdf fun w s₀ s₁ mg mb fa o pm cd doc a vs ns G Y ho hd hcd hmg hobj hints hlen hg => ?_
  obtain ⟨fd, hb, hF⟩ := F w mg fa _ (hY w _ Y) G.T.g hmg
  exact law_runs (hY w _ Y) G.T.g G.T.b G.T.builtins G.T.nolimit hg hobj hints (Nat.le_trans hlen hn2) hr hF hb fun H hS => hsp _ H a ns hlen hS
end G
set_option Elab.async false
set_option maxRecDepth 100000
set_option maxHeartbeats 4000000
/-! enumerate over a tuple -/
namespace G
open PySem PySem.Spec PyProof.Rows L2

/-- what draws from a tuple's iterator -/
theorem draws_T {prog : Program} {w : World} {A : Around} (hh : A.handled = none) (it t : Addr) (hne : t ≠ it) (its : Array Value) :
    Draws prog w A it [it, t] its.size (fun i v => its[i]? = some v) (fun i h => IsTupIter h it t i ∧ IsTup h t its) :=
  { live := fun _ _ st => st.1.elim fun o q => ⟨o, q.1⟩
    frame := fun _ _ _ st hk => ⟨st.1.elim fun o q => ⟨o, hk it (List.mem_cons_self ..) o q.1, q.2⟩, st.2.elim fun o q => ⟨o, hk t (List.mem_cons_of_mem _ (List.mem_cons_self ..)) o q.1, q.2⟩⟩
    item := fun i s Q E hi st hQ => RZ.nextOf_tuple_item st.1 st.2 (x := its[i]) (Array.getElem?_eq_getElem hi) fun h' hit' hs' =>
      hQ _ h' s.toks (Array.getElem?_eq_getElem hi) ⟨hit', st.2.elim fun o q => ⟨o, hs'.extBut t o hne q.1, q.2⟩⟩ hs'
    done := fun s Q E st hE => RZ.nextOf_tuple_end hh st.1 st.2 (Array.getElem?_eq_none (Nat.le_refl _)) hE }

/-- enumerate(t), t a tuple: made -/
theorem meets_enum1 {v : Value} {o : Obj} {H : Heap → Prop} (B : Begins v o H) :
    Meets (Builtin.«enumerate.__new__» ⟨[.type "enumerate", v], []⟩) (fun _ R s => H s.heap ∧
      R (.ok (.ret (.ref (s.heap.objs.size + 1)))) { s with heap := (s.heap.push o).push { cls := .type "enumerate", data := .fields #[.none, .bool false, .ref s.heap.objs.size, rawInt 0, .none, .none] } }) :=
  .of_wp fun prog w A R s h => by
    obtain ⟨hp, g, d, tk, os⟩ := s
    obtain ⟨h1, h⟩ := h
    have hsub := sub_enumerate
    have hz : (hp.push o).objs.size = hp.objs.size + 1 := Heap.size_push ..
    have q1 : ∀ {A' : Around} {E : Value → Shared → Prop} {Q : Value → Shared → Prop}, Q (.ref hp.objs.size) ⟨hp.push o, g, d, tk, os⟩ → wpAny (model prog w) A' (pyIter v) Q E ⟨hp, g, d, tk, os⟩ := B.iter prog w _ _ ⟨hp, g, d, tk, os⟩ _ h1
    wp_walk using q1
    refine wpAny_stack_any fun st => wpAny_pure ?_
    split
    · rename_i c _ _ _ _ _
      cases (c == Value.type "enumerate") <;> (wp_walk using q1; exact ⟨_, hz ▸ rfl, h⟩)
    · wp_walk using q1
      exact ⟨_, hz ▸ rfl, h⟩
theorem call_enum1 {prog : Program} {w : World} {A : Around} {E : Value → Shared → Prop} {s : Shared} {v : Value} {o : Obj} {H : Heap → Prop} {Q : Value → Shared → Prop} (B : Begins v o H) (h1 : H s.heap)
    (h : ∀ h', IsEnum h' (s.heap.objs.size + 1) s.heap.objs.size 0 .none → h'.get? s.heap.objs.size = some o → (∀ b u, s.heap.get? b = some u → h'.get? b = some u) → Q (.ref (s.heap.objs.size + 1)) { s with heap := h' }) :
    wpAny (model prog w) A (call (.type "enumerate") [v]) Q E s := by
  have hz : (s.heap.push o).objs.size = s.heap.objs.size + 1 := Heap.size_push ..
  have he : IsEnum ((s.heap.push o).push { cls := .type "enumerate", data := .fields #[.none, .bool false, .ref s.heap.objs.size, rawInt 0, .none, .none] }) (s.heap.objs.size + 1) s.heap.objs.size 0 .none :=
    hz ▸ Heap.get?_push_size (s.heap.push o) rfl
  exact callType_new F.called_enumerate (by decide) (F.typeCall_enumerate_1 _) (F.newCall_enumerate_1 _) (fun obj => F.args_object_init_2 obj _) F.entry_enumerate_new (meets_enum1 B)
    ⟨h1, ⟨_, he, rfl⟩, h _ he (Heap.get?_push_of_some _ (Heap.get?_push_size _ B.free)) fun b u x => Heap.get?_push_of_some _ (Heap.get?_push_of_some _ x)⟩

/-- the tuple at a, each item in a new pair -/
def Iet (K : PySem.W.Frag) (a : Addr) : It :=
  ⟨fun i H => ∃ (xs : List V) (x : V), SqT K H a xs ∧ xs[i]? = some x, fun i H v H' => ∃ T x, v = .ref T ∧ H T = none ∧ H' = upd H T (.tup [.int (i : Nat), x]) ∧ ∀ xs, SqT K H a xs → xs[i]? = some x, fun i H => ∃ xs : List V, SqT K H a xs ∧ xs.length ≤ i⟩
theorem turn_enumT {P : Program} {w : World} {K : PySem.W.Frag} {elts : List Expr} {kk : Nat} {tpos : Pos} (a e it : Addr) (hne : e ≠ it) (hea : a ≠ e) (hia : a ≠ it) :
    Turn P w K (.Tuple elts kk tpos) (Iet K a) [e, it] e (fun i h => (∃ old, IsEnum h e it ((i : Nat) : Int) old) ∧ IsTupIter h it a i) where
  mem := List.mem_cons_self ..
  obj := fun i h ⟨⟨old, he⟩, ⟨o, ho, hc, hd⟩⟩ b hb => by
    rcases List.mem_cons.mp hb with rfl | hb
    · exact ⟨_, he, fun v q => nomatch q⟩
    · rw [List.mem_singleton.mp hb]
      exact ⟨o, ho, fun v q => by rw [hd] at q; cases q⟩
  keep := fun i h h' ⟨⟨old, he⟩, ⟨o, ho, r⟩⟩ k => ⟨⟨old, k e (List.mem_cons_self ..) _ he⟩, ⟨o, k it (List.mem_cons_of_mem _ (List.mem_cons_self ..)) o ho, r⟩⟩
  item := by
    intro X hP hw hK hc i pins s σ H E I hf ⟨⟨old, he⟩, hit⟩ ⟨xs, x, hq, hx⟩
    subst hP hw hK
    obtain ⟨its, rv, p, hz⟩ := I.tuple hq
    obtain ⟨u, hu, ru⟩ := rv.get hx
    have hel : e < s.heap.objs.size := Heap.lt_size he
    have hil : it < s.heap.objs.size := hit.elim fun o q => Heap.lt_size q.1
    have hi : i < its.toArray.size := by
      rw [List.size_toArray]
      exact (List.getElem?_eq_some_iff.mp hu).1
    refine wpAny_pyNext_enum_itemD (draws_T (prog := X.prog) (w := X.w) (A := X.A.in1) (I.ok.hd hc) it a hia its.toArray) he ⟨hit, p⟩ hi hne (by simp [hne, Ne.symm hea]) fun y h' tk hy ho hst hT hsz hk => ?_
    obtain rfl : u = y := Option.some.inj (hu.symm.trans (by simpa using hy))
    refine ⟨_, rfl, wpAny_letOwnedTupleGo_enum (s := { s with heap := h', toks := tk + 1 }) ho fun h2 he2 sb => ?_⟩
    have nT : ∀ b ∈ [e, it], b < s.heap.objs.size := fun b hb => by
      rcases List.mem_cons.mp hb with rfl | hb
      · exact hel
      · rw [List.mem_singleton.mp hb]
        exact hil
    have new : ObjOk X.prog X.w (upd H s.heap.objs.size (.tup [.int (i : Nat), x])) h2 s.heap.objs.size (.tup [.int (i : Nat), x]) :=
      ⟨by show 2 ≤ sizeLine; decide, [.int i tk, u], .cons ⟨_, rfl⟩ (.cons ru .nil), ⟨_, (sb.2 _ (Nat.ne_of_gt hel)).trans hT, rfl, _, rfl⟩⟩
    refine ⟨.ref s.heap.objs.size, _, I.turnedNew (t' := tk + 1) (ch := [e, it]) (fun b ob hb q => (sb.2 b fun z => hb (z ▸ List.mem_cons_self ..)).trans (hk b ob (fun z => hb (z ▸ List.mem_cons_self ..)) (fun z => hb (z ▸ List.mem_cons_of_mem _ (List.mem_cons_self ..))) q)) hf (Nat.le_refl _) new,
      rfl, ⟨_, x, rfl, I.hok.fresh (Nat.le_refl _), rfl, fun ys hy => by rw [I.tuple_inj hy hq]; exact hx⟩, ⟨⟨u, ?_⟩, hst.1.elim fun o q => ⟨o, (sb.2 it (Ne.symm hne)).trans q.1, q.2⟩⟩, fun b hb => ?_⟩
    · rw [Int.natCast_add]
      exact he2
    · rw [upd_ne (Nat.ne_of_lt (nT b hb))]
      exact (hf b hb).1
  done := by
    intro X hP hw hK hc i pins s σ H E I hf ⟨⟨old, he⟩, hit⟩ ⟨xs, hq, hx⟩
    subst hP hw hK
    obtain ⟨its, rv, p, hz⟩ := I.tuple hq
    obtain ⟨f0, f1, f2, f3, f4, f5⟩ := hf it (List.mem_cons_of_mem _ (List.mem_cons_self ..))
    have hl : its.length ≤ i := by
      have := rv.length
      omega
    have hT : s.TypeIs (.ref e) "enumerate" := ⟨_, he, rfl⟩
    unfold pyNext
    refine wpAny_bind (wpAny_attempt (wpAny_callSpecial?_slot (name := Str.ofString "__next__") hT F.slot_enumerate_next (wpAny_call_entry F.slot_enumerate_next hT F.entry_enumerate_next ?_ (F.args_enumerate_next_1 _))))
    refine wpAny_bind (m := field (.ref e) 2) (wpAny_field he rfl (x := .ref it) rfl ?_)
    refine wpAny_bind (RZ.nextOf_tuple_end (I.ok.hd hc) hit p (by simpa using hl) fun h' y hk ⟨o, ho, hc'⟩ => ?_)
    exact wpAny_bind (wpAny_isInstance (T := "StopIteration") (b := true) ⟨o, ho, hc'⟩ isSubtype_stop (wpAny_pure ⟨rfl, I.turned (t' := s.toks) (fun b o hb q => hk b o hb q) f0 f1 f3 f4 f5⟩))
  self := fun A i s Q E ⟨⟨_, he⟩, _⟩ h => wpAny_pyIter_enum he h

def iEnumT (K : PySem.W.Frag) (ta : TA) : TI := fun σ H R => ta σ H fun vs H1 => ∃ a xs, vs = [.ref a] ∧ SqT K H1 a xs ∧ R (Iet K a) H1
theorem pi_enumT {X : Cx} {e : Expr} {ta : TA} {p pos tpos : Pos} {elts : List Expr} {kk : Nat} (hg : Gl X "enumerate") (hm : X.mg "enumerate" = none) (ha : PA X [e] ta) (hs : starEach [e] X.env = [(false, eval e X.env)] := by rfl) :
    PI X (.Tuple elts kk tpos) (.Call (.Name "enumerate" p) [e] [] pos) (iEnumT X.K ta) := by
  refine ⟨fun pins s σ H R I h => Call_ (ld_blt I hg hm boot_enumerate (PyProof.Rows.callWith_type1 (thn (ha.run pos pins s σ H _ I h) fun us s1 ⟨vs, H1, I1, r1, a, xs, ex, hq, q⟩ => ?_) hs rfl))⟩
  subst ex
  cases r1 with
  | cons r rr =>
    cases rr
    cases r
    obtain ⟨its, rv, p', hz⟩ := I1.tuple hq
    have ha : a < s1.heap.objs.size := p'.elim fun o q => Heap.lt_size q.1
    refine call_enum1 (begins_tuple a its.toArray) p' fun h' he hit hk => wpAny_pyIter_enum he ?_
    refine ⟨s1.heap.objs.size + 1, [s1.heap.objs.size + 1, s1.heap.objs.size], _, _, H1, rfl, I1.kept (t' := s1.toks) hk, turn_enumT a (s1.heap.objs.size + 1) s1.heap.objs.size (Nat.succ_ne_self _) (Nat.ne_of_lt (Nat.lt_succ_of_lt ha)) (Nat.ne_of_lt ha), ⟨⟨.none, he⟩, ⟨_, hit, rfl, rfl⟩⟩, fun b hb => ?_, q⟩
    have hle : s1.heap.objs.size ≤ b := by
      rcases List.mem_cons.mp hb with z | z
      · rw [z]
        exact Nat.le_succ _
      · rw [List.mem_singleton.mp z]
        exact Nat.le_refl _
    exact I1.fpOk hle (I1.hok.fresh hle)
theorem walk_enumT {K : PySem.W.Frag} {a : Addr} {xs : List V} : Walk (Iet K a) xs.length (fun H => SqT K H a xs) (YPair (fun i => some (.int (i : Nat))) (fun i => xs[i]?)) where
  goes := fun i H hi h => ⟨xs, xs[i], h, List.getElem?_eq_getElem hi⟩
  stops := fun H h => ⟨xs, h, Nat.le_refl _⟩
  yields := fun i H x H' hi h ⟨T, y, e1, e2, e3, e4⟩ => ⟨T, _, y, e1, e2, e3, rfl, e4 xs h⟩
end G
set_option Elab.async false
set_option maxRecDepth 100000
/-! parity, banks: the mathematics -/
namespace X1
open PySem PySem.Spec PyProof.Rows L2

/-- how many one bits -/
def pc (n : Nat) : Nat := if h : n = 0 then 0 else n % 2 + pc (n / 2)
termination_by n
decreasing_by omega
theorem pc_0 : pc 0 = 0 := by rw [pc]; rfl
theorem pc_eq (n : Nat) : pc n = n % 2 + pc (n / 2) := by
  by_cases h : n = 0
  · subst h
    rw [pc_0]
  · rw [pc, dif_neg h]
/-- parity -/
def par (n : Nat) : Nat := pc n % 2
theorem digit_code (b : Nat) (h : b < 2) : (Nat.digitChar b).toNat = 48 + b := by
  match b, h with
  | 0, _ => decide
  | 1, _ => decide
theorem cnt_core : ∀ (fuel n : Nat) (ds : List Char), n < fuel → cnt 49 ((Nat.toDigitsCore 2 fuel n ds).map Char.toNat) = (pc n : Int) + cnt 49 (ds.map Char.toNat)
  | 0, _, _, h => absurd h (Nat.not_lt_zero _)
  | fuel + 1, n, ds, h => by
    have hb : n % 2 < 2 := Nat.mod_lt _ (by decide)
    have step : cnt 49 ((Nat.digitChar (n % 2) :: ds).map Char.toNat) = ((n % 2 : Nat) : Int) + cnt 49 (ds.map Char.toNat) := by
      rw [List.map_cons, cnt_cons, digit_code _ hb]
      by_cases h1 : n % 2 = 1
      · rw [h1]
        rfl
      · have h0 : n % 2 = 0 := by omega
        rw [h0]
        rfl
    unfold Nat.toDigitsCore
    by_cases h0 : n / 2 = 0
    · simp only [h0, if_true]
      rw [step, pc_eq n, h0, pc_0, Nat.add_zero]
    · simp only [h0, if_false]
      rw [cnt_core fuel (n / 2) _ (by omega), step, pc_eq n]
      omega
theorem cnt_bin (n : Nat) : Txt.count (G.binText n) ("1" : Str) = (pc n : Int) := by
  have e : ("1" : Str) = ⟨#[49]⟩ := by decide +kernel
  rw [e, count_cnt]
  show cnt 49 (G.binL n) = _
  unfold G.binL Nat.toDigits
  rw [cnt_core (n + 1) n [] (Nat.lt_succ_self n)]
  show (pc n : Int) + 0 = pc n
  omega
/-- one bit of a bank -/
def bitOf (ms : List Int) (a : Int) (i : Nat) : Int := (par (a.toNat &&& ((ms.getD i 0).toNat)) : Int) * 2 ^ i
def bits (ms : List Int) (a : Int) : List Int := (List.range ms.length).map (bitOf ms a)
/-- the bank of an address -/
def bankOf (ms : List Int) (a : Int) : Int := (bits ms a).sum
theorem bits_length (ms : List Int) (a : Int) : (bits ms a).length = ms.length := by
  unfold bits
  rw [List.length_map, List.length_range]
theorem bits_next (ms : List Int) (a : Int) {i : Nat} (h : i < ms.length) : (bits ms a).take i ++ [bitOf ms a i] = (bits ms a).take (i + 1) := by
  have e : (bits ms a)[i]? = some (bitOf ms a i) := by
    unfold bits
    rw [List.getElem?_map, List.getElem?_range h]
    rfl
  rw [List.take_add_one, e]
  rfl
theorem par_lt (n : Nat) : par n < 2 := Nat.mod_lt _ (by decide)
theorem sum_lt (ms : List Int) (a : Int) : ∀ i, i ≤ ms.length → 0 ≤ ((bits ms a).take i).sum ∧ ((bits ms a).take i).sum < 2 ^ i
  | 0, _ => ⟨Int.le_refl 0, by show (0 : Int) < 1; decide⟩
  | i + 1, h => by
    obtain ⟨h1, h2⟩ := sum_lt ms a i (by omega)
    rw [← bits_next ms a (by omega), List.sum_append]
    have hp := par_lt (a.toNat &&& ((ms.getD i 0).toNat))
    have h3 : 0 ≤ bitOf ms a i ∧ bitOf ms a i ≤ 2 ^ i := by
      have hh : (0 : Int) ≤ 2 ^ i := two_pow_nn i
      unfold bitOf
      rcases (by omega : par (a.toNat &&& ((ms.getD i 0).toNat)) = 0 ∨ par (a.toNat &&& ((ms.getD i 0).toNat)) = 1) with e | e
      · rw [e]
        simp [hh]
      · rw [e]
        simp [hh]
    have e2 : (2 : Int) ^ (i + 1) = 2 ^ i + 2 ^ i := by
      rw [Int.pow_succ]
      omega
    rw [e2]
    simp only [List.sum_cons, List.sum_nil]
    omega
theorem bank_lt (ms : List Int) (a : Int) : 0 ≤ bankOf ms a ∧ bankOf ms a < 2 ^ ms.length := by
  have h := sum_lt ms a ms.length (Nat.le_refl _)
  rw [List.take_of_length_le (by rw [bits_length]; exact Nat.le_refl _)] at h
  exact h
end X1
set_option Elab.async false
set_option maxRecDepth 100000
set_option maxHeartbeats 4000000
namespace X1
open PySem L2
/-! ### the text by places -/
def top (i : Nat) : Stmt := PySem.Challenge.pw_xorbanks_k21_banks_of_addresses.main.body.getD i (.Pass ⟨0, 0, 0, 0⟩)
abbrev sIsInt : Stmt := top 9
abbrev sIsAddr : Stmt := top 11
abbrev sAreAddrs : Stmt := top 12
abbrev sAreMasks : Stmt := top 13
abbrev sCkWidth : Stmt := top 14
abbrev sCkMap : Stmt := top 15
abbrev sCkAddr : Stmt := top 16
abbrev sParity : Stmt := top 18
abbrev sBankOf : Stmt := top 20
abbrev sBank : Stmt := top 21
abbrev sBox : Stmt := top 23
abbrev sTake : Stmt := top 24
abbrev sOf : Stmt := top 25
abbrev sOdd : Stmt := top 26
abbrev sPlace : Stmt := top 27
abbrev sLot : Stmt := top 28
abbrev sPlan : Stmt := top 29
abbrev sRight : Stmt := top 30
abbrev sLaw : Stmt := top 31
/-- a def of the module, as it stands behind the top -/
structure At (K : PySem.W.Frag) (mg : Str → Option Value) (x : Str) (st : Stmt) (ps : List Str) (f : Addr) (fd : FuncData) : Prop where
  fn : Fun K x x st f fd
  mg : mg x = some (.ref f)
  bi : Binds K fd ps []
/-- what else the defs ask of the module -/
abbrev sIsWidth : Stmt := top 10
structure Txt (K : PySem.W.Frag) (mg : Str → Option Value) : Prop where
  isWidth : ∃ f fd, At K mg "is_width" sIsWidth ["value"] f fd
  isinstance : mg "isinstance" = none
  int : mg "int" = none
  bool : mg "bool" = none
  tuple : mg "tuple" = none
  len : mg "len" = none
  all : mg "all" = none
  sum : mg "sum" = none
  enum : mg "enumerate" = none
  abs : mg "abs" = none
  range : mg "range" = none
  repr : mg "repr" = none
  max : mg "max" = none
  min : mg "min" = none
  mWidth : ∃ t, mg "MOST_WIDTH" = some (.int 16 t)
  mMasks : ∃ t, mg "MOST_MASKS" = some (.int 16 t)
theorem iteFb {b : Bool} {A B : Prop} (h : b = false) (k : B) : if b = true then A else B := by
  subst h
  exact iteF k
theorem iteTb {b : Bool} {A B : Prop} (h : b = true) (k : A) : if b = true then A else B := by
  subst h
  exact iteT k
theorem yes {σ : St} {H : Hp} {Q : Bool → Hp → Prop} (h : Q true H) : tYes σ H Q := h
theorem qv {Q : VK} {v v' : V} {H : Hp} (e : v = v') (k : Q v' H) : Q v H := e ▸ k
section
variable {P : Program} {w : World} {K : PySem.W.Frag} {mg : Str → Option Value} {base : Heap}

/-! ### is_int, of an int -/
def spIsInt : Sp := fun vs H Q _ => ∃ i : Int, vs = [.int i] ∧ Q (.bl true) H
theorem scIsInt : FnScope ["value"] ["value"] (defScope sIsInt) := ⟨rfl, rfl, rfl, by decide +kernel, rfl, by decide +kernel, by decide +kernel⟩
theorem ok_isInt {f : Addr} {fd : FuncData} (A0 : At K mg "is_int" sIsInt ["value"] f fd) (T : Txt K mg) : FnOk P w K mg base CX0 1 f fd ["value"] spIsInt := by
  refine A0.fn.ok scIsInt (fun vs H Q E h => ?_) (fun cdv A outer s H vs Q E hr h => ?_)
  · obtain ⟨i, rfl, _⟩ := h
    rfl
  · obtain ⟨i, rfl, k⟩ := h
    refine ⟨_, pss_one (ps_ret (pe_and (pe_callB call_isi (by rfl) T.isinstance (by decide +kernel) (pa_cons (pv 0) (pa_cons (pe_bltn (v := .ty "int") (by rfl) T.int (by decide +kernel) rfl) pa_nil)))
      (pe_one (pe_not (pe_callB call_isi (by rfl) T.isinstance (by decide +kernel) (pa_cons (pv 0) (pa_cons (pe_bltn (v := .ty "bool") (by rfl) T.bool (by decide +kernel) rfl) pa_nil))))))), ?_⟩
    refine ⟨_, rfl, _, _, _, _, _, rfl, .ty _, .base (.int _), kit_ty (r := true) (by decide +kernel), _, rfl, iteT ?_⟩
    exact ⟨_, rfl, _, _, _, _, _, rfl, .ty _, .base (.int _), kit_ty (r := false) (by decide +kernel), _, rfl, k⟩

/-! ### is_address, of ints -/
def spIsAddr : Sp := fun vs H Q _ => ∃ wd v : Int, vs = [.int wd, .int v] ∧ 0 ≤ wd ∧ wd ≤ 1000 ∧ Q (.bl (decide (0 ≤ v ∧ v < 2 ^ wd.toNat))) H
theorem scIsAddr : FnScope ["width", "value"] ["width", "value"] (defScope sIsAddr) := ⟨rfl, rfl, rfl, by decide +kernel, rfl, by decide +kernel, by decide +kernel⟩
theorem ok_isAddr {f f1 : Addr} {fd fd1 : FuncData} (A0 : At K mg "is_address" sIsAddr ["width", "value"] f fd) (A1 : At K mg "is_int" sIsInt ["value"] f1 fd1) (T : Txt K mg) :
    FnOk P w K mg base CX0 2 f fd ["width", "value"] spIsAddr := by
  have G1 : FnOk P w K mg base CX0 1 f1 fd1 ["value"] spIsInt := ok_isInt A1 T
  refine A0.fn.ok scIsAddr (fun vs H Q E h => ?_) (fun cdv A outer s H vs Q E hr h => ?_)
  · obtain ⟨i, j, rfl, _⟩ := h
    rfl
  · obtain ⟨wd, v, rfl, h0, h1, k⟩ := h
    refine ⟨_, pss_one (ps_ret (pe_and (pe_call G1 hr (by rfl) A1.mg A1.fn.kp A1.bi .nil pass0 (pa_cons (pv 1) pa_nil))
      (pe_one (pe_chain op_le op_lt pe_int (pv 1) (pe_op op_shl pe_int (pv 0)))))), ?_⟩
    refine ⟨_, rfl, _, rfl, _, rfl, iteT ?_⟩
    refine ⟨_, rfl, _, _, rfl, rfl, _, rfl, ?_⟩
    by_cases hv : 0 ≤ v
    · refine iteTb (decide_eq_true hv) ?_
      refine ⟨_, rfl, _, _, rfl, rfl, ⟨h0, by omega, by decide⟩, _, _, rfl, rfl, ?_⟩
      exact qv (by rw [Int.one_mul]; simp [hv]) k
    · refine iteFb (decide_eq_false hv) ?_
      exact qv (by simp [hv]) k
/-- all of them addresses of the width -/
def InW (wd : Int) (ns : List Int) : Prop := ∀ x ∈ ns, 0 ≤ x ∧ x < 2 ^ wd.toNat
/-! ### are_addresses, of a tuple of addresses -/
def spAreAddrs (K : PySem.W.Frag) : Sp := fun vs H Q _ => ∃ (wd m : Int) (p : Addr) (ns : List Int), vs = [.int wd, .ref p, .int m] ∧ 0 ≤ wd ∧ wd ≤ 1000 ∧ H p = some (.tup (ns.map V.int)) ∧ (ns.length : Int) ≤ m ∧ ns.length ≤ 1000 ∧ InW wd ns ∧
  ∀ H', Same H H' → Q (.bl true) H'
theorem scAreAddrs : FnScope ["width", "value", "most", "item"] ["width", "value", "most"] (defScope sAreAddrs) := ⟨rfl, rfl, rfl, by decide +kernel, rfl, by decide +kernel, by decide +kernel⟩
theorem ok_areAddrs {f f1 f2 : Addr} {fd fd1 fd2 : FuncData} (A0 : At K mg "are_addresses" sAreAddrs ["width", "value", "most"] f fd) (A1 : At K mg "is_int" sIsInt ["value"] f1 fd1)
    (A2 : At K mg "is_address" sIsAddr ["width", "value"] f2 fd2) (T : Txt K mg) : FnOk P w K mg base CX0 3 f fd ["width", "value", "most"] (spAreAddrs K) := by
  have G2 : FnOk P w K mg base CX0 2 f2 fd2 ["width", "value"] spIsAddr := ok_isAddr A2 A1 T
  refine A0.fn.ok scAreAddrs (fun vs H Q E h => ?_) (fun cdv A outer s H vs Q E hr h => ?_)
  · obtain ⟨wd, m, p, ns, rfl, _⟩ := h
    rfl
  · obtain ⟨wd, m, p, ns, rfl, h0, h1, hp, hm, hl, hin, k⟩ := h
    refine ⟨_, pss_cons (ps_if (PW.pt (pw_or (pt_not (pt_val (pe_callB call_isi (by rfl) T.isinstance (by decide +kernel) (pa_cons (pv 1) (pa_cons (pe_bltn (v := .ty "tuple") (by rfl) T.tuple (by decide +kernel) rfl) pa_nil)))))
        (pw_or1 (pt_cmpR op_gt (pe_callB call_len_seq (by rfl) T.len PySem.boot_len (pa_cons (pv 1) pa_nil)) (pv 2) (nomark _))))) (pss_one (ps_ret pe_bl)) pss_nil)
      (pss_one (ps_ret (pe_callB (cr_all rfl) (by rfl) T.all (by decide +kernel) (pa_cons (pe_lc (own := [("item", 3)]) (g := gName 3) (tt := tYes) rfl scAreAddrs.nd (pi_tup (pv 1))
        (blkOk_by (N := ["width", "value", "most", "item"]) (sc := defScope sAreAddrs) (by decide +kernel)) (fun _ _ _ _ _ => pg_name (i := 3) scAreAddrs.nd rfl (Or.inl rfl)) (fun _ _ _ _ _ => pts_nil)
        (fun _ _ _ _ _ => pe_call G2 hr (by rfl) A2.mg A2.fn.kp A2.bi .nil pass0 (pa_cons (pv 0) (pa_cons (pv 3) pa_nil)))) pa_nil)))), ?_⟩
    refine ⟨_, rfl, _, _, _, _, _, rfl, .ty _, .base (.tup hp), kit_ty (r := true) (by decide +kernel), _, rfl, iteF ?_⟩
    refine ⟨_, rfl, _, _, rfl, .inr (SqT.of hp), _, rfl, _, _, rfl, rfl, _, rfl, ?_⟩
    refine iteFb (decide_eq_false (by rw [List.length_map]; omega)) ?_
    refine ⟨_, rfl, _, rfl, ⟨_, SqT.of hp⟩, fun D hD => ?_⟩
    have npD : p ≠ D := ne_of_none hp hD
    refine lc_tup (K := K) (a := p) (xs := ns.map V.int) (fun i H' => (∀ b o, b ≠ D → H b = some o → H' b = some o) ∧ H' D = some (.lst ((List.replicate i true).map V.bl))) ⟨fun b o n e => by rw [upd_ne n]; exact e, upd_same⟩ (fun i H' _ ⟨s1, _⟩ => SqT.of (s1 _ _ npD hp)) ?_ ?_
    · rintro i x H' hi ⟨s1, hd⟩
      rw [List.getElem?_map] at hi
      cases e : ns[i]? with
      | none =>
        rw [e] at hi
        cases hi
      | some u =>
        rw [e] at hi
        cases hi
        have hu := hin u (List.mem_of_getElem? e)
        have hil : i < ns.length := (List.getElem?_eq_some_iff.mp e).1
        refine ⟨rfl, yes (iteT ?_)⟩
        refine ⟨_, rfl, _, rfl, wd, u, rfl, h0, h1, _, hd, ?_, ?_⟩
        · rw [List.length_map, List.length_replicate]
          exact Nat.lt_of_lt_of_le hil (Nat.le_trans hl (by decide))
        · refine ⟨fun b o n e => by rw [upd_ne n]; exact s1 b o n e, ?_⟩
          rw [upd_same, decide_eq_true hu, List.replicate_succ', List.map_append]
          rfl
    · rintro H' ⟨s1, hd⟩
      rw [List.length_map] at hd
      refine ⟨D, _, rfl, SqL.of hd, ?_⟩
      rw [show (List.replicate ns.length true).all id = true by simp]
      exact k H' fun b o e => s1 b o (ne_of_none e hD) e
/-! ### are_masks -/
def spAreMasks (K : PySem.W.Frag) : Sp := fun vs H Q _ => ∃ (wd : Int) (p : Addr) (ns : List Int), vs = [.int wd, .ref p] ∧ 0 ≤ wd ∧ wd ≤ 1000 ∧ H p = some (.tup (ns.map V.int)) ∧ ns.length ≤ 16 ∧ InW wd ns ∧ ∀ H', Same H H' → Q (.bl true) H'
theorem scAreMasks : FnScope ["width", "value"] ["width", "value"] (defScope sAreMasks) := ⟨rfl, rfl, rfl, by decide +kernel, rfl, by decide +kernel, by decide +kernel⟩
theorem ok_areMasks {f f1 f2 f3 : Addr} {fd fd1 fd2 fd3 : FuncData} (A0 : At K mg "are_masks" sAreMasks ["width", "value"] f fd) (A1 : At K mg "is_int" sIsInt ["value"] f1 fd1)
    (A2 : At K mg "is_address" sIsAddr ["width", "value"] f2 fd2) (A3 : At K mg "are_addresses" sAreAddrs ["width", "value", "most"] f3 fd3) (T : Txt K mg) : FnOk P w K mg base CX0 4 f fd ["width", "value"] (spAreMasks K) := by
  have G3 : FnOk P w K mg base CX0 3 f3 fd3 ["width", "value", "most"] (spAreAddrs K) := ok_areAddrs A3 A1 A2 T
  obtain ⟨tm, hmm⟩ := T.mMasks
  refine A0.fn.ok scAreMasks (fun vs H Q E h => ?_) (fun cdv A outer s H vs Q E hr h => ?_)
  · obtain ⟨wd, p, ns, rfl, _⟩ := h
    rfl
  · obtain ⟨wd, p, ns, rfl, h0, h1, hp, hl, hin, k⟩ := h
    refine ⟨_, pss_one (ps_ret (pe_call G3 hr (by rfl) A3.mg A3.fn.kp A3.bi .nil pass0 (pa_cons (pv 0) (pa_cons (pv 1) (pa_cons (pe_glob (v := .int 16) (by rfl) hmm ⟨_, rfl⟩) pa_nil))))), ?_⟩
    exact ⟨_, rfl, _, rfl, wd, 16, p, ns, rfl, h0, h1, hp, by omega, by omega, hin, k⟩
/-! ### the checks -/
/-! ### is_width, of an int -/
def spIsWidth : Sp := fun vs H Q _ => ∃ wd : Int, vs = [.int wd] ∧ 1 ≤ wd ∧ wd ≤ 16 ∧ Q (.bl true) H
theorem scIsWidth : FnScope ["value"] ["value"] (defScope sIsWidth) := ⟨rfl, rfl, rfl, by decide +kernel, rfl, by decide +kernel, by decide +kernel⟩
theorem ok_isWidth {f f1 : Addr} {fd fd1 : FuncData} (A0 : At K mg "is_width" sIsWidth ["value"] f fd) (A1 : At K mg "is_int" sIsInt ["value"] f1 fd1) (T : Txt K mg) : FnOk P w K mg base CX0 2 f fd ["value"] spIsWidth := by
  have G1 : FnOk P w K mg base CX0 1 f1 fd1 ["value"] spIsInt := ok_isInt A1 T
  obtain ⟨tw, hmw⟩ := T.mWidth
  refine A0.fn.ok scIsWidth (fun vs H Q E h => ?_) (fun cdv A outer s H vs Q E hr h => ?_)
  · obtain ⟨wd, rfl, _⟩ := h
    rfl
  · obtain ⟨wd, rfl, h0, h1, k⟩ := h
    refine ⟨_, pss_one (ps_ret (pe_and (pe_call G1 hr (by rfl) A1.mg A1.fn.kp A1.bi .nil pass0 (pa_cons (pv 0) pa_nil)) (pe_one (pe_chain op_le op_le pe_int (pv 0) (pe_glob (v := .int 16) (by rfl) hmw ⟨_, rfl⟩))))), ?_⟩
    refine ⟨_, rfl, _, rfl, _, rfl, iteT ?_⟩
    refine ⟨_, rfl, _, _, rfl, rfl, _, rfl, ?_⟩
    refine iteTb (decide_eq_true h0) ?_
    refine ⟨_, _, rfl, rfl, ?_⟩
    exact qv (show V.bl (decide (wd ≤ 16)) = V.bl true by rw [decide_eq_true h1]) k
def spCkWidth : Sp := fun vs H Q _ => ∃ wd : Int, vs = [.int wd] ∧ 1 ≤ wd ∧ wd ≤ 16 ∧ Q .non H
theorem scCkWidth : FnScope ["width"] ["width"] (defScope sCkWidth) := ⟨rfl, rfl, rfl, by decide +kernel, rfl, by decide +kernel, by decide +kernel⟩
theorem ok_ckWidth {f f1 : Addr} {fd fd1 : FuncData} (A0 : At K mg "check_width" sCkWidth ["width"] f fd) (A1 : At K mg "is_int" sIsInt ["value"] f1 fd1) (T : Txt K mg) : FnOk P w K mg base CX0 3 f fd ["width"] spCkWidth := by
  obtain ⟨f2, fd2, A2⟩ := T.isWidth
  have G2 : FnOk P w K mg base CX0 2 f2 fd2 ["value"] spIsWidth := ok_isWidth A2 A1 T
  refine A0.fn.ok scCkWidth (fun vs H Q E h => ?_) (fun cdv A outer s H vs Q E hr h => ?_)
  · obtain ⟨wd, rfl, _⟩ := h
    rfl
  · obtain ⟨wd, rfl, h0, h1, k⟩ := h
    refine ⟨_, pss_one (ps_if (pt_not (pt_val (pe_call G2 hr (by rfl) A2.mg A2.fn.kp A2.bi .nil pass0 (pa_cons (pv 0) pa_nil)))) (pss_one ps_never) pss_nil), ?_⟩
    refine ⟨_, rfl, _, rfl, h0, h1, _, rfl, ?_⟩
    exact iteF k
def spCkMap (K : PySem.W.Frag) : Sp := fun vs H Q _ => ∃ (wd : Int) (p : Addr) (ns : List Int), vs = [.int wd, .ref p] ∧ 0 ≤ wd ∧ wd ≤ 1000 ∧ H p = some (.tup (ns.map V.int)) ∧ ns.length ≤ 16 ∧ InW wd ns ∧ ∀ H', Same H H' → Q .non H'
theorem scCkMap : FnScope ["width", "masks"] ["width", "masks"] (defScope sCkMap) := ⟨rfl, rfl, rfl, by decide +kernel, rfl, by decide +kernel, by decide +kernel⟩
theorem ok_ckMap {f f1 f2 f3 f4 : Addr} {fd fd1 fd2 fd3 fd4 : FuncData} (A0 : At K mg "check_map" sCkMap ["width", "masks"] f fd) (A1 : At K mg "is_int" sIsInt ["value"] f1 fd1)
    (A2 : At K mg "is_address" sIsAddr ["width", "value"] f2 fd2) (A3 : At K mg "are_addresses" sAreAddrs ["width", "value", "most"] f3 fd3) (A4 : At K mg "are_masks" sAreMasks ["width", "value"] f4 fd4) (T : Txt K mg) :
    FnOk P w K mg base CX0 5 f fd ["width", "masks"] (spCkMap K) := by
  have G4 : FnOk P w K mg base CX0 4 f4 fd4 ["width", "value"] (spAreMasks K) := ok_areMasks A4 A1 A2 A3 T
  refine A0.fn.ok scCkMap (fun vs H Q E h => ?_) (fun cdv A outer s H vs Q E hr h => ?_)
  · obtain ⟨wd, p, ns, rfl, _⟩ := h
    rfl
  · obtain ⟨wd, p, ns, rfl, h0, h1, hp, hl, hin, k⟩ := h
    refine ⟨_, pss_one (ps_if (pt_not (pt_val (pe_call G4 hr (by rfl) A4.mg A4.fn.kp A4.bi .nil pass0 (pa_cons (pv 0) (pa_cons (pv 1) pa_nil))))) (pss_one ps_never) pss_nil), ?_⟩
    exact ⟨_, rfl, _, rfl, wd, p, ns, rfl, h0, h1, hp, hl, hin, fun H' sm => ⟨_, rfl, iteF (k H' sm)⟩⟩
def spCkAddr : Sp := fun vs H Q _ => ∃ wd v : Int, vs = [.int wd, .int v] ∧ 0 ≤ wd ∧ wd ≤ 1000 ∧ 0 ≤ v ∧ v < 2 ^ wd.toNat ∧ Q .non H
theorem scCkAddr : FnScope ["width", "address"] ["width", "address"] (defScope sCkAddr) := ⟨rfl, rfl, rfl, by decide +kernel, rfl, by decide +kernel, by decide +kernel⟩
theorem ok_ckAddr {f f1 f2 : Addr} {fd fd1 fd2 : FuncData} (A0 : At K mg "check_address" sCkAddr ["width", "address"] f fd) (A1 : At K mg "is_int" sIsInt ["value"] f1 fd1)
    (A2 : At K mg "is_address" sIsAddr ["width", "value"] f2 fd2) (T : Txt K mg) : FnOk P w K mg base CX0 3 f fd ["width", "address"] spCkAddr := by
  have G2 : FnOk P w K mg base CX0 2 f2 fd2 ["width", "value"] spIsAddr := ok_isAddr A2 A1 T
  refine A0.fn.ok scCkAddr (fun vs H Q E h => ?_) (fun cdv A outer s H vs Q E hr h => ?_)
  · obtain ⟨wd, v, rfl, _⟩ := h
    rfl
  · obtain ⟨wd, v, rfl, h0, h1, h2, h3, k⟩ := h
    refine ⟨_, pss_one (ps_if (pt_not (pt_val (pe_call G2 hr (by rfl) A2.mg A2.fn.kp A2.bi .nil pass0 (pa_cons (pv 0) (pa_cons (pv 1) pa_nil))))) (pss_one ps_never) pss_nil), ?_⟩
    refine ⟨_, rfl, _, rfl, wd, v, rfl, h0, h1, _, rfl, ?_⟩
    exact iteFb (by rw [decide_eq_true ⟨h2, h3⟩]; rfl) k
/-! ### parity -/
def spParity : Sp := fun vs H Q _ => ∃ n : Nat, vs = [.int (n : Int)] ∧ n < 2 ^ 2000 ∧ Q (.int (par n : Nat)) H
theorem pe_f1 {X : Cx} {e : Expr} {te : TE} {pos : Pos} (he : PE X e te) : PE X (.JoinedStr [e] pos) te := ⟨fun pins s σ H Q I h => PyProof.Rows.JoinedStr_one (he.run pins s σ H Q I h)⟩
theorem scParity : FnScope ["number", "digits"] ["number"] (defScope sParity) := ⟨rfl, rfl, rfl, by decide +kernel, rfl, by decide +kernel, by decide +kernel⟩
theorem ok_parity {f f1 : Addr} {fd fd1 : FuncData} (A0 : At K mg "parity" sParity ["number"] f fd) (A1 : At K mg "is_int" sIsInt ["value"] f1 fd1) (T : Txt K mg) : FnOk P w K mg base CX0 2 f fd ["number"] spParity := by
  have G1 : FnOk P w K mg base CX0 1 f1 fd1 ["value"] spIsInt := ok_isInt A1 T
  refine A0.fn.ok scParity (fun vs H Q E h => ?_) (fun cdv A outer s H vs Q E hr h => ?_)
  · obtain ⟨n, rfl, _⟩ := h
    rfl
  · obtain ⟨n, rfl, hn, k⟩ := h
    refine ⟨_, pss_cons (ps_if (PW.pt (pw_or (pt_not (pt_val (pe_call G1 hr (by rfl) A1.mg A1.fn.kp A1.bi .nil pass0 (pa_cons (pv 0) pa_nil)))) (pw_or1 (pt_cmpR op_lt (pv 0) pe_int (nomark _))))) (pss_one ps_never) pss_nil)
      (pss_cons (ps_set (i := 1) scParity.nd rfl (Or.inl rfl) (pe_f1 (G.pe_fmtB (pv 0))))
      (pss_one (ps_ret (pe_op op_and (pe_m1 PySem.F.slot_str_count PySem.F.type_str_count mt_count (pv 1) pe_str) pe_int)))), ?_⟩
    refine ⟨_, rfl, _, rfl, _, rfl, iteF ?_⟩
    refine ⟨_, rfl, _, _, rfl, rfl, _, rfl, ?_⟩
    refine iteFb (decide_eq_false (by omega)) ?_
    refine ⟨_, rfl, n, rfl, hn, ?_⟩
    refine ⟨_, rfl, ⟨_, rfl⟩, _, _, rfl, rfl, _, _, rfl, rfl, ?_⟩
    exact qv (by rw [cnt_bin]; show V.int (Builtin.bitAnd (pc n : Int) 1) = _; rw [PyProof.Rows.bitAnd_m1]; rfl) k
end
end X1
set_option Elab.async false
set_option maxRecDepth 100000
set_option maxHeartbeats 4000000
namespace X1
open PySem L2
/-- the law's own stream of draws: three ints in a list -/
def BoxO (n : Int) (o : HO) : Prop := ∃ x0 x1 x2 : Int, o = .lst [.int x0, .int x1, .int x2] ∧ 0 ≤ x0 ∧ x0 < 2 ^ 1000 ∧ 0 ≤ x1 ∧ x1 < 2 ^ 62 ∧ 0 ≤ x2 ∧ x2 ≤ n
theorem BoxO.mono {n m : Int} {o : HO} (h : n ≤ m) (b : BoxO n o) : BoxO m o := by
  obtain ⟨x0, x1, x2, e, h0, h1, h2, h3, h4, h5⟩ := b
  exact ⟨x0, x1, x2, e, h0, h1, h2, h3, h4, by omega⟩
theorem BoxO.lst {n : Int} {o : HO} (b : BoxO n o) : ∃ xs, o = .lst xs := by
  obtain ⟨x0, x1, x2, e, _⟩ := b
  exact ⟨_, e⟩
/-- all but b as it was -/
def Sam (b : Addr) (H H' : Hp) : Prop := ∀ c o, c ≠ b → H c = some o → H' c = some o
theorem Sam.refl (b : Addr) (H : Hp) : Sam b H H := fun _ _ _ e => e
theorem Sam.trans {b : Addr} {H H1 H2 : Hp} (x : Sam b H H1) (y : Sam b H1 H2) : Sam b H H2 := fun c o n e => y c o n (x c o n e)
theorem Sam.upd {b : Addr} {o : HO} {H : Hp} : Sam b H (upd H b o) := fun c u n e => by rw [upd_ne n]; exact e
theorem Sam.new {b p : Addr} {o : HO} {H H' : Hp} (x : Sam b H H') (hp : H' p = none) : Sam b H (L2.upd H' p o) := fun c u n e => by
  rw [upd_ne (ne_of_none (x c u n e) hp)]
  exact x c u n e
theorem b01 (b : Bool) : -(2 ^ 64) < (if b = true then (1 : Int) else 0) ∧ (if b = true then (1 : Int) else 0) < 2 ^ 64 := by cases b <;> decide
theorem mulb {x M : Int} (b : Bool) (h0 : 0 ≤ x) (h : x < M) : 0 ≤ x * (if b = true then (1 : Int) else 0) ∧ x * (if b = true then (1 : Int) else 0) < M := by
  cases b
  · rw [if_neg (by decide), Int.mul_zero]
    omega
  · rw [if_pos rfl, Int.mul_one]
    exact ⟨h0, h⟩
theorem big300 : (0 : Int) < ((10 : Int) ^ (60 : Int).toNat) ^ (5 : Int).toNat ∧ ((10 : Int) ^ (60 : Int).toNat) ^ (5 : Int).toNat < 2 ^ 1000 := by decide +kernel
theorem mulB (x : Int) (b : Bool) : 0 ≤ x % (((10 : Int) ^ (60 : Int).toNat) ^ (5 : Int).toNat) * (if b = true then (1 : Int) else 0) ∧ x % (((10 : Int) ^ (60 : Int).toNat) ^ (5 : Int).toNat) * (if b = true then (1 : Int) else 0) < 2 ^ 1000 :=
  mulb b (Int.emod_nonneg x (Int.ne_of_gt big300.1)) (Int.lt_trans (Int.emod_lt_of_pos x big300.1) big300.2)
section
variable {P : Program} {w : World} {K : PySem.W.Frag} {mg : Str → Option Value} {base : Heap}
/-! ### _law_box -/
def spBox (K : PySem.W.Frag) : Sp := fun vs H Q _ => ∃ (a : Addr) (ns : List Int) (k : Nat), vs = [.ref a, .int (k : Int)] ∧ SqL K H a (ns.map V.int) ∧ k ≤ 1000 ∧ ∀ b o, H b = none → BoxO 0 o → Q (.ref b) (upd H b o)
theorem scBox : FnScope ["_law_script", "_law_k", "_law_cell", "_law_own"] ["_law_script", "_law_k"] (defScope sBox) := ⟨rfl, rfl, rfl, by decide +kernel, rfl, by decide +kernel, by decide +kernel⟩
theorem ok_box {f : Addr} {fd : FuncData} (A0 : At K mg "_law_box" sBox ["_law_script", "_law_k"] f fd) (T : Txt K mg) : FnOk P w K mg base CX0 1 f fd ["_law_script", "_law_k"] (spBox K) := by
  refine A0.fn.ok scBox (fun vs H Q E h => ?_) (fun cdv A outer s H vs Q E hr h => ?_)
  · obtain ⟨a, ns, k, rfl, _⟩ := h
    rfl
  · obtain ⟨a, ns, j, rfl, hS, hj, k⟩ := h
    refine ⟨_, pss_cons (ps_set (i := 2) scBox.nd rfl (Or.inl rfl) (pe_ifExp (pt_cmpR op_lt (pv 1) (pe_callB call_len_seq (by rfl) T.len PySem.boot_len (pa_cons (pv 0) pa_nil)) (nomark _))
        (pe_ix ix_list (pv 0) (pv 1) (fun _ _ => rfl)) (pe_op op_add (pe_op op_mul pe_int (pv 1)) pe_int)))
      (pss_cons (ps_set (i := 3) scBox.nd rfl (Or.inl rfl) (pe_op op_mul (pe_op op_mod (pe_callB call_abs (by rfl) T.abs (by decide +kernel) (pa_cons (pv 2) pa_nil)) (pe_op G.op_powW (pe_op op_pow pe_int pe_int) pe_int))
        (pe_callTy call_int1 (by rfl) T.int (by decide +kernel) (pa_cons (pe_cmpR op_ge (pe_callB call_abs (by rfl) T.abs (by decide +kernel) (pa_cons (pv 2) pa_nil)) (pe_op op_pow pe_int pe_int) (nomark _)) pa_nil))))
      (pss_one (ps_ret (pe_lst (pa_cons (pv 3) (pa_cons (pe_op op_mod (pe_op op_add (pe_op op_add (pe_op op_mul (pe_op op_mod (pv 2) pe_int) pe_int) (pe_op op_mul (pe_op op_mul pe_int (pv 1)) (pv 1))) pe_int) pe_int) (pa_cons pe_int pa_nil))))))), ?_⟩
    refine ⟨_, rfl, _, rfl, a, _, rfl, .inl hS, _, _, rfl, rfl, _, rfl, ?_⟩
    refine ite2 (fun hlt => ?g1) (fun hlt => ?g2)
    case' g1 =>
      obtain ⟨c, hc⟩ : ∃ c, ns[j]? = some c := ⟨_, List.getElem?_eq_getElem (by simpa using hlt)⟩
      refine ⟨_, rfl, _, rfl, a, _, _, _, rfl, rfl, hS, atI_nat (v := V.int c) (by rw [List.getElem?_map, hc]; rfl), ?_⟩
    case' g2 => refine ⟨_, rfl, _, _, rfl, rfl, .inl ⟨by decide, by decide⟩, _, _, rfl, rfl, ?_⟩
    all_goals
      refine ⟨_, rfl, _, rfl, _, _, rfl, rfl, ⟨by decide, by decide, by decide⟩, _, _, rfl, rfl, ⟨by decide, by decide +kernel⟩, _, _, rfl, rfl, big300.1, ?_⟩
      refine ⟨_, rfl, _, rfl, _, _, rfl, rfl, ⟨by decide, by decide, by decide⟩, _, _, rfl, rfl, .inr ⟨_, rfl, _, _, rfl, rfl, .inr (b01 _), ?_⟩⟩
      refine ⟨_, rfl, _, rfl, _, _, rfl, rfl, (by show (0 : Int) < 2305843009213693951; decide), _, _, rfl, rfl, .inr ⟨by decide, by decide⟩, _, rfl, _, _, rfl, rfl, .inl ⟨by decide, by decide⟩, _, rfl, _, _, rfl, rfl, .inr ⟨by omega, by omega⟩, _, _, rfl, rfl, _, _, rfl, rfl, _, _, rfl, rfl, (by show (0 : Int) < 2305843009213693921; decide), (by show 3 ≤ sizeLine; decide), fun b hb => ?_⟩
      exact k b _ hb ⟨_, _, _, rfl, (mulB _ _).1, (mulB _ _).2, Int.emod_nonneg _ (by decide), Int.lt_trans (Int.emod_lt_of_pos _ (by decide)) (by decide), Int.le_refl 0, Int.le_refl 0⟩
/-! ### _law_take -/
def spTake : Sp := fun vs H Q _ => ∃ (b : Addr) (n many : Int) (o : HO), vs = [.ref b, .int many] ∧ H b = some o ∧ BoxO n o ∧ n ≤ 1000000 ∧ 0 < many ∧ many < 2 ^ 1000 ∧
  ∀ v o', 0 ≤ v → v < many → BoxO (n + 1) o' → Q (.int v) (upd H b o')
theorem scTake : FnScope ["_law_box_here", "_law_many", "_law_digit", "_law_mixed"] ["_law_box_here", "_law_many"] (defScope sTake) := ⟨rfl, rfl, rfl, by decide +kernel, rfl, by decide +kernel, by decide +kernel⟩
theorem ok_take {f : Addr} {fd : FuncData} (A0 : At K mg "_law_take" sTake ["_law_box_here", "_law_many"] f fd) : FnOk P w K mg base CX0 1 f fd ["_law_box_here", "_law_many"] spTake := by
  refine A0.fn.ok scTake (fun vs H Q E h => ?_) (fun cdv A outer s H vs Q E hr h => ?_)
  · obtain ⟨b, n, m, o, rfl, _⟩ := h
    rfl
  · obtain ⟨b, n, m, o, rfl, hb, ⟨x0, x1, x2, rfl, h0, h1, h2, h3, h4, h5⟩, hn, m0, m1, k⟩ := h
    refine ⟨_, pss_cons (ps_if (pt_cmpR op_gt (pe_ix ix_list (pv 0) pe_int (fun _ _ => rfl)) pe_int (nomark _))
        (pss_cons (ps_set (i := 2) scTake.nd rfl (Or.inl rfl) (pe_op op_mod (pe_ix ix_list (pv 0) pe_int (fun _ _ => rfl)) (pv 1)))
        (pss_cons (ps_asg (pe_op op_fdivW (pe_ix ix_list (pv 0) pe_int (fun _ _ => rfl)) (pv 1)) (pg_sub (pv 0) pe_int set_list)) (pss_one (ps_ret (pv 2))))) pss_nil)
      (pss_cons (ps_asg (pe_op op_add (pe_ix ix_list (pv 0) pe_int (fun _ _ => rfl)) pe_int) (pg_sub (pv 0) pe_int set_list))
      (pss_cons (ps_set (i := 3) scTake.nd rfl (Or.inl rfl) (pe_op op_mod (pe_op op_mul (pe_op op_add (pe_op op_add (pe_ix ix_list (pv 0) pe_int (fun _ _ => rfl))
          (pe_op op_mul (pe_op op_mul pe_int (pe_ix ix_list (pv 0) pe_int (fun _ _ => rfl))) (pe_ix ix_list (pv 0) pe_int (fun _ _ => rfl)))) pe_int) pe_int) pe_int))
      (pss_cons (ps_set (i := 3) scTake.nd rfl (Or.inl rfl) (pe_op op_mod (pe_op op_mul (pv 3) (pe_op op_add (pe_op op_mod (pv 3) pe_int) (pe_op op_mul pe_int (pe_ix ix_list (pv 0) pe_int (fun _ _ => rfl))))) pe_int))
      (pss_one (ps_ret (pe_op op_mod (pe_op op_add (pe_op op_fdiv (pv 3) pe_int) (pe_op op_fdiv (pv 3) pe_int)) (pv 1))))))), ?_⟩
    refine ⟨_, rfl, b, _, 0, _, rfl, rfl, SqL.of hb, rfl, _, _, rfl, rfl, _, rfl, ?_⟩
    refine ite2 (fun hp => ?_) (fun hp => ?_)
    · refine ⟨_, rfl, b, _, 0, _, rfl, rfl, SqL.of hb, rfl, _, rfl, _, _, rfl, rfl, m0, ?_⟩
      refine ⟨_, rfl, b, _, 0, _, rfl, rfl, SqL.of hb, rfl, _, rfl, _, _, rfl, rfl, wide_div m0 (b := 1000) (by omega) (by decide) (by decide), ?_⟩
      refine ⟨_, rfl, b, _, 0, 0, rfl, rfl, hb, rfl, ?_⟩
      have hx : 0 ≤ x0 / m := Int.ediv_nonneg h0 (by omega)
      have hy : x0 / m ≤ x0 := Int.ediv_le_self m h0
      exact ⟨_, rfl, k _ _ (Int.emod_nonneg _ (by omega)) (Int.emod_lt_of_pos _ m0) ⟨_, _, _, rfl, hx, by omega, h2, h3, h4, by omega⟩⟩
    · refine ⟨_, rfl, b, _, 2, _, rfl, rfl, SqL.of hb, rfl, _, _, rfl, rfl, _, rfl, b, _, 2, 2, rfl, rfl, hb, rfl, ?_⟩
      have hb' : ∀ o, upd H b o b = some o := fun _ => upd_same
      refine ⟨_, rfl, b, _, 1, _, rfl, rfl, SqL.of upd_same, rfl, _, rfl, b, _, 2, _, rfl, rfl, SqL.of upd_same, rfl, _, _, rfl, rfl, .inl ⟨by decide, by decide⟩, _, rfl, b, _, 2, _, rfl, rfl, SqL.of upd_same, rfl, _, _, rfl, rfl, .inr ⟨by omega, by omega⟩, _, _, rfl, rfl, _, _, rfl, rfl, _, _, rfl, rfl, .inr ⟨by decide, by decide⟩, _, _, rfl, rfl, (by show (0 : Int) < 2305843009213693921; decide), ?_⟩
      have hq0 := Int.emod_nonneg ((x1 + 65551 * (x2 + 1) * (x2 + 1) + 17) * 48299) (b := 2305843009213693921) (by decide)
      have hq1 := Int.emod_lt_of_pos ((x1 + 65551 * (x2 + 1) * (x2 + 1) + 17) * 48299) (b := 2305843009213693921) (by decide)
      refine ⟨_, rfl, _, rfl, _, _, rfl, rfl, (by show (0 : Int) < 1000033; decide), _, rfl, b, _, 2, _, rfl, rfl, SqL.of upd_same, rfl, _, _, rfl, rfl, .inl ⟨by decide, by decide⟩, _, _, rfl, rfl, _, _, rfl, rfl, .inl ⟨by omega, by omega⟩, _, _, rfl, rfl, (by show (0 : Int) < 2305843009213693907; decide), ?_⟩
      refine ⟨_, rfl, _, _, rfl, rfl, ⟨by decide, by decide⟩, _, rfl, _, _, rfl, rfl, ⟨by decide, by decide⟩, _, _, rfl, rfl, _, rfl, _, _, rfl, rfl, m0, ?_⟩
      exact k _ _ (Int.emod_nonneg _ (by omega)) (Int.emod_lt_of_pos _ m0) ⟨_, _, _, rfl, h0, h1, h2, h3, by omega, by omega⟩
end
end X1
set_option Elab.async false
set_option maxRecDepth 100000
set_option maxHeartbeats 4000000
namespace X1
open PySem L2
section
variable {P : Program} {w : World} {K : PySem.W.Frag} {mg : Str → Option Value} {base : Heap}
/-! ### _law_of -/
def spOf : Sp := fun vs H Q _ => ∃ (b p : Addr) (n : Int) (o : HO) (xs : List V), vs = [.ref b, .ref p] ∧ H b = some o ∧ BoxO n o ∧ n ≤ 1000000 ∧ H p = some (.lst xs) ∧ p ≠ b ∧ 0 < xs.length ∧ xs.length ≤ 1000 ∧
  ∀ (j : Nat) v o', xs[j]? = some v → BoxO (n + 1) o' → Q v (upd H b o')
theorem scOf : FnScope ["_law_box_here", "_law_some"] ["_law_box_here", "_law_some"] (defScope sOf) := ⟨rfl, rfl, rfl, by decide +kernel, rfl, by decide +kernel, by decide +kernel⟩
theorem ok_of {f f1 : Addr} {fd fd1 : FuncData} (A0 : At K mg "_law_of" sOf ["_law_box_here", "_law_some"] f fd) (A1 : At K mg "_law_take" sTake ["_law_box_here", "_law_many"] f1 fd1) (T : Txt K mg) :
    FnOk P w K mg base CX0 2 f fd ["_law_box_here", "_law_some"] spOf := by
  have G1 : FnOk P w K mg base CX0 1 f1 fd1 ["_law_box_here", "_law_many"] spTake := ok_take A1
  refine A0.fn.ok scOf (fun vs H Q E h => ?_) (fun cdv A outer s H vs Q E hr h => ?_)
  · obtain ⟨b, p, n, o, xs, rfl, _⟩ := h
    rfl
  · obtain ⟨b, p, n, o, xs, rfl, hb, B, hn, hp, npb, hl0, hl1, k⟩ := h
    refine ⟨_, pss_one (ps_ret (pe_ix ix_list (pv 1) (pe_call G1 hr (by rfl) A1.mg A1.fn.kp A1.bi .nil pass0 (pa_cons (pv 0) (pa_cons (pe_callB call_len_seq (by rfl) T.len PySem.boot_len (pa_cons (pv 1) pa_nil)) pa_nil))) (fun _ _ => rfl))), ?_⟩
    have big : (xs.length : Int) < 2 ^ 1000 := Int.lt_of_le_of_lt (show (xs.length : Int) ≤ 1000 by omega) (by decide +kernel)
    refine ⟨_, rfl, _, rfl, _, rfl, p, _, rfl, .inl (SqL.of hp), b, n, _, o, rfl, hb, B, hn, by omega, big, fun v o' v0 v1 B' => ?_⟩
    obtain ⟨j, rfl⟩ := Int.eq_ofNat_of_zero_le v0
    obtain ⟨x, hx⟩ : ∃ x, xs[j]? = some x := ⟨_, List.getElem?_eq_getElem (by omega)⟩
    exact ⟨p, xs, _, x, rfl, rfl, SqL.of (by rw [upd_ne npb]; exact hp), atI_nat hx, k j x o' hx B'⟩
/-! ### _law_odd_ones -/
def spOdd : Sp := fun vs H Q _ => ∃ n : Nat, vs = [.int (n : Int)] ∧ Q (.int (par n : Nat)) H
theorem scOdd : FnScope ["_law_number", "_law_found"] ["_law_number"] (defScope sOdd) := ⟨rfl, rfl, rfl, by decide +kernel, rfl, by decide +kernel, by decide +kernel⟩
theorem ok_odd {f : Addr} {fd : FuncData} (A0 : At K mg "_law_odd_ones" sOdd ["_law_number"] f fd) : FnOk P w K mg base CX0 1 f fd ["_law_number"] spOdd := by
  refine A0.fn.ok scOdd (fun vs H Q E h => ?_) (fun cdv A outer s H vs Q E hr h => ?_)
  · obtain ⟨n, rfl, _⟩ := h
    rfl
  · obtain ⟨n, rfl, k⟩ := h
    refine ⟨_, pss_cons (ps_set (i := 1) scOdd.nd rfl (Or.inl rfl) pe_int)
      (pss_cons (ps_while PassesOwn.never (pt_cmpR op_gt (pv 0) pe_int (nomark _)) (pss_one (ps_par (i := 1) (j := 0) (by rfl) scOdd.nd rfl rfl (by decide) rfl rfl
        (pa_cons (pe_op op_add (pv 1) (pe_op op_mod (pv 0) pe_int)) (pa_cons (pe_op op_fdiv (pv 0) pe_int) pa_nil)) (by rfl))))
      (pss_one (ps_ret (pe_op op_mod (pv 1) pe_int)))), ?_⟩
    refine while_by (fun σ H' => ∃ c m : Nat, σ = [some (.int (m : Int)), some (.int (c : Int))] ∧ H' = H ∧ c + pc m = pc n) (fun σ _ => match σ with | some (.int m) :: _ => m.toNat | _ => 0) ⟨0, n, rfl, rfl, by omega⟩ ?_ ?_
    · rintro σ H' ⟨c, m, rfl, rfl, e⟩
      refine ⟨_, rfl, _, _, rfl, rfl, _, rfl, ?_⟩
      refine ite2 (fun hm => ?_) (fun hm => ?_)
      · have hm := of_decide_eq_true hm
        refine ⟨_, rfl, _, rfl, _, _, rfl, rfl, (by show (0 : Int) < 2; decide), _, _, rfl, rfl, _, rfl, _, _, rfl, rfl, ⟨by decide, by decide⟩, _, _, rfl, ?_⟩
        have e1 := pc_eq m
        refine ⟨⟨c + m % 2, m / 2, ?_, rfl, by omega⟩, ?_⟩
        · show [some (V.int ((m : Int) / 2)), some (V.int ((c : Int) + (m : Int) % 2))] = _
          rw [Int.natCast_add, Int.natCast_emod, Int.natCast_ediv]
          rfl
        · show ((m : Int) / 2).toNat < ((m : Int)).toNat
          omega
      · have hm0 : m = 0 := by
          have : ¬ (0 : Int) < (m : Int) := fun z => hm (decide_eq_true z)
          omega
        subst hm0
        rw [pc_0] at e
        refine ⟨_, rfl, _, _, rfl, rfl, (by show (0 : Int) < 2; decide), ?_⟩
        refine qv ?_ k
        show V.int ((c : Int) % 2) = _
        unfold par
        rw [← e, Nat.add_zero, Int.natCast_emod]
        rfl
    · rintro σ H' Q1 Q2 hq ⟨v, e, i, j, e1, e2, z, e3, q⟩
      exact ⟨v, e, i, j, e1, e2, z, e3, hq _ _ q⟩
/-! ### _law_place -/
theorem and_le (a b : Nat) : a &&& b ≤ a := Nat.and_le_left
theorem shl_par (n i : Nat) : (par n : Int) * 2 ^ ((i : Int)).toNat = (par n : Int) * 2 ^ i := rfl
theorem at_map {ms : List Int} {i : Nat} {y : V} (h : (ms.map V.int)[i]? = some y) : ∃ m, ms[i]? = some m ∧ y = .int m ∧ i < ms.length ∧ ms.getD i 0 = m := by
  rw [List.getElem?_map] at h
  cases e : ms[i]? with
  | none =>
    rw [e] at h
    cases h
  | some m =>
    rw [e] at h
    cases h
    exact ⟨m, rfl, rfl, (List.getElem?_eq_some_iff.mp e).1, by rw [List.getD_eq_getElem?_getD, e]; rfl⟩
def spPlace (K : PySem.W.Frag) : Sp := fun vs H Q _ => ∃ (p : Addr) (ms : List Int) (a : Int), vs = [.ref p, .int a] ∧ H p = some (.tup (ms.map V.int)) ∧ ms.length ≤ 64 ∧ 0 ≤ a ∧ (∀ m ∈ ms, 0 ≤ m) ∧
  ∀ H', Same H H' → Q (.int (bankOf ms a)) H'
theorem scPlace : FnScope ["_law_plan_here", "_law_spot", "_law_at", "_law_one"] ["_law_plan_here", "_law_spot"] (defScope sPlace) := ⟨rfl, rfl, rfl, by decide +kernel, rfl, by decide +kernel, by decide +kernel⟩
theorem ok_place {f f1 : Addr} {fd fd1 : FuncData} (A0 : At K mg "_law_place" sPlace ["_law_plan_here", "_law_spot"] f fd) (A1 : At K mg "_law_odd_ones" sOdd ["_law_number"] f1 fd1) (T : Txt K mg) :
    FnOk P w K mg base CX0 2 f fd ["_law_plan_here", "_law_spot"] (spPlace K) := by
  have G1 : FnOk P w K mg base CX0 1 f1 fd1 ["_law_number"] spOdd := ok_odd A1
  refine A0.fn.ok scPlace (fun vs H Q E h => ?_) (fun cdv A outer s H vs Q E hr h => ?_)
  · obtain ⟨p, ms, a, rfl, _⟩ := h
    rfl
  · obtain ⟨p, ms, a, rfl, hp, hl, ha, hms, k⟩ := h
    refine ⟨_, pss_one (ps_ret (pe_callB (cr_sum rfl) (by rfl) T.sum (by decide +kernel) (pa_cons (pe_lc (own := [("_law_at", 2), ("_law_one", 3)]) (tt := tYes) rfl scPlace.nd
      (G.pi_enumT (by rfl) T.enum (pa_cons (pv 0) pa_nil)) (blkOk_by (N := ["_law_plan_here", "_law_spot", "_law_at", "_law_one"]) (sc := defScope sPlace) (by decide +kernel))
      (g := gTup K 2 (gCons (gName 2) (gCons (gName 3) gNil))) (fun _ _ _ _ _ => by exact pg_tup rfl (pgs_cons (pg_name (i := 2) scPlace.nd rfl (Or.inl rfl)) (pgs_cons (pg_name (i := 3) scPlace.nd rfl (Or.inl rfl)) pgs_nil))) (fun _ _ _ _ _ => pts_nil)
      (fun _ _ _ _ _ => pe_op op_shl (pe_call G1 hr (by rfl) A1.mg A1.fn.kp A1.bi .nil pass0 (pa_cons (pe_op op_and (pv 1) (pv 3)) pa_nil)) (pv 2))) pa_nil))), ?_⟩
    refine ⟨_, rfl, p, _, rfl, SqT.of hp, fun D hD => ?_⟩
    have npD : p ≠ D := ne_of_none hp hD
    refine lc_it (G.walk_enumT (K := K) (a := p) (xs := ms.map V.int)) (fun i H' => (∀ b o, b ≠ D → H b = some o → H' b = some o) ∧ H' D = some (.lst (((bits ms a).take i).map V.int))) ⟨fun b o n e => by rw [upd_ne n]; exact e, upd_same⟩
      (fun i H' _ ⟨s1, _⟩ => SqT.of (s1 _ _ npD hp)) ?_ ?_
    · rintro i x H1 H2 hi ⟨s1, hd⟩ ⟨Tp, x1, x2, rfl, hT, rfl, e1, e2⟩
      cases e1
      obtain ⟨m, em, rfl, hil, eg⟩ := at_map e2
      have hm := hms m (List.mem_of_getElem? em)
      have nTD : D ≠ Tp := ne_of_none hd hT
      refine ⟨Tp, _, rfl, SqT.of upd_same, rfl, _, _, rfl, _, _, rfl, rfl, rfl, yes (iteT ?_)⟩
      refine ⟨_, rfl, _, rfl, _, _, rfl, rfl, (a.toNat &&& m.toNat), ?_, _, rfl, _, _, rfl, rfl, ⟨by omega, by omega, ?_⟩, _, by rw [upd_ne nTD]; exact hd, ?_, ?_⟩
      · show [V.int (Builtin.bitAnd a m)] ++ [] = _
        rw [PyProof.Rows.bitAnd_pp ha hm]
        rfl
      · have := par_lt (a.toNat &&& m.toNat)
        omega
      · rw [List.length_map, List.length_take, bits_length]
        exact Nat.lt_of_le_of_lt (Nat.min_le_left _ _) (Nat.lt_trans hil (Nat.lt_of_le_of_lt hl (by decide)))
      · refine ⟨fun b o n e => ?_, ?_⟩
        · rw [upd_ne n, upd_ne (ne_of_none (s1 b o n e) hT)]
          exact s1 b o n e
        · rw [upd_same, ← bits_next ms a hil, List.map_append]
          unfold bitOf
          rw [eg]
          rfl
    · rintro H' ⟨s1, hd⟩
      rw [List.length_map, List.take_of_length_le (by rw [bits_length]; exact Nat.le_refl _)] at hd
      exact ⟨D, _, rfl, SqL.of hd, k H' fun b o e => s1 b o (ne_of_none e hD) e⟩
end
end X1
set_option Elab.async false
set_option maxRecDepth 100000
set_option maxHeartbeats 4000000
namespace X1
open PySem L2
/-- a list of ints as data -/
theorem dpAll_ints {K : PySem.W.Frag} {H : Hp} : ∀ ns : List Int, DpAll K H (ns.map V.int) (ns.map PyData.int)
  | [] => .nil
  | n :: ns => .cons (.int n) (dpAll_ints ns)
theorem canLay_ints : ∀ ns : List Int, PyData.canLayAll0 (ns.map PyData.int) = true
  | [] => rfl
  | n :: ns => by
    show (PyData.canLay0 (.int n) && PyData.canLayAll0 (ns.map PyData.int)) = true
    rw [canLay_ints ns]
    rfl
theorem depth_ints : ∀ ns : List Int, PyData.depthAll (ns.map PyData.int) = 0
  | [] => rfl
  | n :: ns => by
    show max (PyData.depth (.int n)) (PyData.depthAll (ns.map PyData.int)) = 0
    rw [depth_ints ns]
    rfl
theorem shaped_ints (ns : List Int) : SeqAt.shaped (.list (ns.map PyData.int)) = true := by
  unfold SeqAt.shaped
  show (PyData.canLayAll0 (ns.map PyData.int) && decide (PyData.depthAll (ns.map PyData.int) + 1 ≤ 64)) = true
  rw [canLay_ints, depth_ints]
  rfl
theorem eqv_nil (ns : List Int) : PyData.eqv (.list (ns.map PyData.int)) (.list []) = decide (ns = []) := by
  cases ns with
  | nil => rfl
  | cons n ns => rfl
theorem xor_in {x y : Int} {k : Nat} (hx : 0 ≤ x ∧ x < 2 ^ k) (hy : 0 ≤ y ∧ y < 2 ^ k) : 0 ≤ Builtin.bitXor x y ∧ Builtin.bitXor x y < 2 ^ k := by
  rw [Bits.bitXor_pp hx.1 hy.1]
  have e : ((2 ^ k : Nat) : Int) = 2 ^ k := by rw [Int.natCast_pow]; rfl
  have h1 : x.toNat < 2 ^ k := by omega
  have h2 : y.toNat < 2 ^ k := by omega
  have := Nat.xor_lt_two_pow h1 h2
  omega
theorem InW.snoc {wd x : Int} {ns : List Int} (h : InW wd ns) (hx : 0 ≤ x ∧ x < 2 ^ wd.toNat) : InW wd (ns ++ [x]) := fun y hy => by
  rcases List.mem_append.mp hy with z | z
  · exact h y z
  · rw [List.mem_singleton.mp z]
    exact hx
theorem at_new {H : Hp} {p q : Addr} {o u : HO} (h : H p = some o) (hq : H q = none) : upd H q u p = some o := by
  rw [upd_ne (ne_of_none h hq)]
  exact h
theorem cut_ints (zs : List Int) (lo hi : Option Int) : ∃ cs : List Int, cutV (zs.map V.int) lo hi = cs.map V.int ∧ (∀ x ∈ cs, x ∈ zs) ∧ cs.length ≤ zs.length := by
  unfold cutV
  generalize HT.sIx (zs.map V.int).length 0 lo = a
  generalize HT.sIx (zs.map V.int).length (zs.map V.int).length hi = c
  refine ⟨(zs.drop a).take (c - a), by rw [List.map_take, List.map_drop], fun x hx => List.mem_of_mem_drop (List.mem_of_mem_take hx), ?_⟩
  rw [List.length_take, List.length_drop]
  omega
section
variable {P : Program} {w : World} {K : PySem.W.Frag} {mg : Str → Option Value} {base : Heap}
/-! ### _law_lot -/
def spLot : Sp := fun vs H Q _ => ∃ (b : Addr) (n sz m : Int) (o : HO), vs = [.ref b, .int sz, .int m] ∧ H b = some o ∧ BoxO n o ∧ n ≤ 900000 ∧ 1 ≤ sz ∧ sz ≤ 16 ∧ 0 ≤ m ∧ m ≤ 64 ∧
  ∀ (p : Addr) (ns : List Int) (H' : Hp) (o' : HO), H p = none → Sam b H H' → H' b = some o' → BoxO (n + 1 + 4 * m) o' → H' p = some (.tup (ns.map V.int)) → InW sz ns → (ns.length : Int) ≤ m → Q (.ref p) H'
theorem scLot : FnScope ["_law_box_here", "_law_size", "_law_most", "_law_found", "_law_turn", "_law_some"] ["_law_box_here", "_law_size", "_law_most"] (defScope sLot) := ⟨rfl, rfl, rfl, by decide +kernel, rfl, by decide +kernel, by decide +kernel⟩
theorem pw_le {sz : Int} (h1 : 1 ≤ sz) (h2 : sz ≤ 16) : (2 : Int) ≤ 2 ^ sz.toNat ∧ (2 : Int) ^ sz.toNat ≤ 65536 := by
  obtain ⟨k, rfl⟩ := Int.eq_ofNat_of_zero_le (show 0 ≤ sz by omega)
  have hk : k ≤ 16 := by omega
  have hk1 : 1 ≤ k := by omega
  have e : ∀ j : Nat, j < 17 → 1 ≤ j → (2 : Int) ≤ 2 ^ j ∧ (2 : Int) ^ j ≤ 65536 := by decide
  exact e k (by omega) hk1
theorem p2_lt {sz v : Int} (h1 : 1 ≤ sz) (v0 : 0 ≤ v) (v1 : v < sz) : 0 ≤ 1 * (2 : Int) ^ v.toNat ∧ 1 * (2 : Int) ^ v.toNat < 2 ^ sz.toNat := by
  rw [Int.one_mul]
  refine ⟨two_pow_nn _, ?_⟩
  have h : v.toNat < sz.toNat := by omega
  have e := Nat.pow_lt_pow_right (a := 2) (by decide) h
  have e1 : ∀ k : Nat, ((2 ^ k : Nat) : Int) = 2 ^ k := fun k => by rw [Int.natCast_pow]; rfl
  rw [← e1, ← e1]
  exact Int.ofNat_lt.mpr e
theorem ok_lot {f f1 f2 : Addr} {fd fd1 fd2 : FuncData} (A0 : At K mg "_law_lot" sLot ["_law_box_here", "_law_size", "_law_most"] f fd) (A1 : At K mg "_law_take" sTake ["_law_box_here", "_law_many"] f1 fd1)
    (A2 : At K mg "_law_of" sOf ["_law_box_here", "_law_some"] f2 fd2) (T : Txt K mg) : FnOk P w K mg base CX0 3 f fd ["_law_box_here", "_law_size", "_law_most"] spLot := by
  have G1 : FnOk P w K mg base CX0 1 f1 fd1 ["_law_box_here", "_law_many"] spTake := ok_take A1
  have G2 : FnOk P w K mg base CX0 2 f2 fd2 ["_law_box_here", "_law_some"] spOf := ok_of A2 A1 T
  refine A0.fn.ok scLot (fun vs H Q E h => ?_) (fun cdv A outer s H vs Q E hr h => ?_)
  · obtain ⟨b, n, sz, m, o, rfl, _⟩ := h
    rfl
  · obtain ⟨b, n, sz, m, o, rfl, hb, B, hn, s1, s2, m1, m2, k⟩ := h
    have hr1 : Room 1 _ := hr.mono (by decide)
    refine ⟨_, (pss_cons (ps_set (i := 3) scLot.nd rfl (Or.inl rfl) (pe_lst pa_nil))
        (pss_cons (ps_for PassesOwn.never rfl (pi_range1 (by rfl) T.range (pa_cons (pe_call G1 hr1 (by rfl) A1.mg A1.fn.kp A1.bi .nil pass0 (pa_cons (pv 0) (pa_cons (pe_op op_add (pv 2) pe_int) pa_nil))) pa_nil)) (pg_name (i := 4) scLot.nd rfl (Or.inl rfl))
        (pss_cons (ps_set (i := 5) scLot.nd rfl (Or.inl rfl) (pe_lst (pa_cons (pe_call G1 hr1 (by rfl) A1.mg A1.fn.kp A1.bi .nil pass0 (pa_cons (pv 0) (pa_cons (pe_op op_shl pe_int (pv 1)) pa_nil))) (pa_cons (pe_op op_shl pe_int (pe_call G1 hr1 (by rfl) A1.mg A1.fn.kp A1.bi .nil pass0 (pa_cons (pv 0) (pa_cons (pv 1) pa_nil)))) (pa_cons pe_int pa_nil)))))
        (pss_cons (ps_if (pt_cmpR (op_neD hr.units) (pv 3) (pe_lst pa_nil) (nomark _)) (pss_one (ps_set (i := 5) scLot.nd rfl (Or.inl rfl) (pe_op op_cat (pv 5) (pe_lst (pa_cons (pe_op op_xor (pe_ix ix_list (pv 3) (pe_un un_neg pe_int) (fun _ _ => rfl)) (pe_call G2 hr (by rfl) A2.mg A2.fn.kp A2.bi .nil pass0 (pa_cons (pv 0) (pa_cons (pv 3) pa_nil)))) pa_nil))))) pss_nil)
        (pss_one (ps_expr (pe_bm PySem.F.plainAttrs_list PySem.F.slot_list_append PySem.F.type_list_append mt_append (pv 3) (pa_cons (pe_call G2 hr (by rfl) A2.mg A2.fn.kp A2.bi .nil pass0 (pa_cons (pv 0) (pa_cons (pe_op op_cat (pv 5) (pe_slice sl_list (pv 5) po_none (po_some pe_int))) pa_nil))) pa_nil)))))))
        (pss_one (ps_ret (pe_callTy call_tuple_of (by rfl) T.tuple (by decide +kernel) (pa_cons (pv 3) pa_nil)))))), ?_⟩
    obtain ⟨p2a, p2b⟩ := pw_le s1 s2
    have big : ∀ {x : Int}, x ≤ 70000 → x < 2 ^ 1000 := fun h => Int.lt_of_le_of_lt h (by decide +kernel)
    refine ⟨Nat.zero_le _, fun l hl => ?_⟩
    have nbl : b ≠ l := ne_of_none hb hl
    refine ⟨_, rfl, _, rfl, _, _, rfl, rfl, b, n, _, o, rfl, by rw [upd_ne nbl]; exact hb, B, by omega, by omega, big (by omega), fun v o' v0 v1 B' => ?_⟩
    refine ⟨v, rfl, by omega, by omega, ?_⟩
    -- between two turns
    refine for_range (lo := 0) (n := v.toNat) (fun i σ H' => ∃ (ns : List Int) (o1 : HO) (t u : Option V), σ = [some (.ref b), some (.int sz), some (.int m), some (.ref l), t, u] ∧ Sam b H H' ∧ H' b = some o1 ∧ BoxO (n + 1 + 4 * (i : Int)) o1 ∧
        H' l = some (.lst (ns.map V.int)) ∧ InW sz ns ∧ ns.length = i) ⟨[], o', none, none, rfl, ?_, upd_same, by simpa using B', by rw [upd_ne nbl.symm]; exact upd_same, (fun x hx => by cases hx), rfl⟩ ?_ ?_
    · intro c u nc e
      rw [upd_ne nc, upd_ne (ne_of_none e hl)]
      exact e
    · rintro i σ H1 hi ⟨ns, o1, t, u, rfl, sm, hb1, B1, hl1, hin, hlen⟩
      have hil : i < 64 := by omega
      refine ⟨_, rfl, _, rfl, _, _, rfl, rfl, ⟨by omega, by omega, by decide⟩, b, _, _, o1, rfl, hb1, B1, by omega, by omega, big (by omega), fun v1 o2 w0 w1 B2 => ?_⟩
      refine ⟨_, rfl, _, rfl, b, _, sz, o2, rfl, upd_same, B2, by omega, by omega, big (by omega), fun v2 o3 x0 x1 B3 => ?_⟩
      refine ⟨_, _, rfl, rfl, ⟨x0, by omega, by decide⟩, by show 3 ≤ sizeLine; decide, fun q hq => ?_⟩
      have nlb : l ≠ b := nbl.symm
      have sm1 : Sam b H1 (upd (upd (upd H1 b o2) b o3) q (.lst [.int v1, .int (1 * 2 ^ v2.toNat), .int 0])) := (Sam.upd.trans Sam.upd).new hq
      have fb : (upd (upd (upd H1 b o2) b o3) q (.lst [.int v1, .int (1 * 2 ^ v2.toNat), .int 0])) b = some o3 := at_new upd_same hq
      have hin3 : InW sz [v1, 1 * 2 ^ v2.toNat, 0] := fun x hx => by
        rcases List.mem_cons.mp hx with rfl | hx
        · exact ⟨w0, by omega⟩
        · rcases List.mem_cons.mp hx with rfl | hx
          · exact p2_lt s1 x0 x1
          · rw [List.mem_singleton.mp hx]
            exact ⟨Int.le_refl 0, by omega⟩
      have nqb : q ≠ b := (ne_of_none (H := upd (upd H1 b o2) b o3) upd_same hq).symm
      have nql : q ≠ l := (ne_of_none (H := upd (upd H1 b o2) b o3) (by rw [upd_ne nlb, upd_ne nlb]; exact hl1) hq).symm
      refine ⟨_, rfl, Nat.zero_le _, fun e he => ?_⟩
      have fl := sm1 l _ nlb hl1
      have fr := (fun h => at_new (p := q) (o := .lst ([v1, 1 * 2 ^ v2.toNat, 0].map V.int)) (u := .lst []) h he) upd_same
      refine ⟨.list (ns.map PyData.int), .list [], .lst (SqL.of (at_new fl he)) (dpAll_ints ns), .lst (SqL.of upd_same) .nil, shaped_ints ns, shaped_ints [], _, rfl, ?_⟩
      have sm2 := sm1.new (o := .lst []) he
      have fb2 := at_new (u := .lst []) fb he
      have fl2 := at_new (u := .lst []) fl he
      refine ite2 (fun hz => ?g1) (fun hz => ?g2)
      case' g1 =>
        have hne : ns ≠ [] := fun z => by
          rw [eqv_nil, z] at hz
          cases hz
        obtain ⟨ys, y, ens⟩ : ∃ ys y, ns = ys ++ [y] := ⟨_, _, (List.dropLast_concat_getLast hne).symm⟩
        have hy := hin y (by rw [ens]; simp)
        refine ⟨_, rfl, _, rfl, _, rfl, l, _, _, V.int y, rfl, rfl, SqL.of fl2, (by rw [ens, List.map_append]; exact atI_last _ _), ?_⟩
        refine ⟨_, rfl, _, rfl, b, l, _, o3, _, rfl, fb2, B3, by omega, fl2, nlb, (by rw [ens]; simp), (by rw [List.length_map]; omega), fun j z o4 hj B4 => ?_⟩
        obtain ⟨x, ex, rfl, _, _⟩ := at_map hj
        have hx := hin x (List.mem_of_getElem? ex)
        have hxy := xor_in hy hx
        refine ⟨_, _, rfl, rfl, by show 1 ≤ sizeLine; decide, fun r hr' => ?_⟩
        have sm3 := (sm2.trans (Sam.upd (o := o4))).new (o := .lst [.int (Builtin.bitXor y x)]) hr'
        have fb3 := at_new (p := b) (o := o4) (u := .lst [.int (Builtin.bitXor y x)]) upd_same hr'
        have fl3 := sm3 l _ nlb hl1
        have fr3 := at_new (p := q) (u := .lst [.int (Builtin.bitXor y x)]) ((upd_ne nqb).trans fr) hr'
        refine ⟨q, r, _, [.int (Builtin.bitXor y x)], rfl, rfl, fr3, upd_same, by show 4 ≤ sizeLine; decide, fun p hp => ?_⟩
        have sm4 := sm3.new (o := .lst ([v1, 1 * 2 ^ v2.toNat, 0, Builtin.bitXor y x].map V.int)) hp
        have fb4 := at_new (u := .lst ([v1, 1 * 2 ^ v2.toNat, 0, Builtin.bitXor y x].map V.int)) fb3 hp
        have fl4 := at_new (u := .lst ([v1, 1 * 2 ^ v2.toNat, 0, Builtin.bitXor y x].map V.int)) fl3 hp
        have npb : p ≠ b := (ne_of_none fb3 hp).symm
        have npl : p ≠ l := (ne_of_none fl3 hp).symm
        have inz : InW sz [v1, 1 * 2 ^ v2.toNat, 0, Builtin.bitXor y x] := hin3.snoc (ns := [v1, 1 * 2 ^ v2.toNat, 0]) hxy
        have fz : ∀ H' : Hp, upd H' p (.lst ([v1, 1 * 2 ^ v2.toNat, 0, Builtin.bitXor y x].map V.int)) p = some (.lst ([v1, 1 * 2 ^ v2.toNat, 0, Builtin.bitXor y x].map V.int)) := fun _ => upd_same
        obtain ⟨cs, ec, hcs, lcs⟩ := cut_ints [v1, 1 * 2 ^ v2.toNat, 0, Builtin.bitXor y x] none (some 2)
        refine ⟨_, rfl, .inl ⟨rfl, _, SqL.of fl4⟩, _, rfl, _, rfl, _, rfl, _, rfl, p, _, rfl, SqL.of (fz _), fun c hc => ?_⟩
        refine ⟨p, c, _, _, rfl, rfl, at_new (fz _) hc, upd_same, (by rw [ec, List.length_map, List.length_map]; exact Nat.le_trans (Nat.add_le_add (Nat.le_refl 4) lcs) (by show 4 + 4 ≤ sizeLine; decide)), fun d hd => ?_⟩
        have sm5 := (sm4.new (o := .lst (cutV ([v1, 1 * 2 ^ v2.toNat, 0, Builtin.bitXor y x].map V.int) none (some 2))) hc).new (o := .lst ([v1, 1 * 2 ^ v2.toNat, 0, Builtin.bitXor y x].map V.int ++ cutV ([v1, 1 * 2 ^ v2.toNat, 0, Builtin.bitXor y x].map V.int) none (some 2))) hd
        have fb5 := (fun h => at_new (p := b) (o := o4) (u := .lst ([v1, 1 * 2 ^ v2.toNat, 0, Builtin.bitXor y x].map V.int ++ cutV ([v1, 1 * 2 ^ v2.toNat, 0, Builtin.bitXor y x].map V.int) none (some 2))) h hd) (at_new fb4 hc)
        have ndb : d ≠ b := (fun h => (ne_of_none (a := b) (o := o4) h hd).symm) (at_new fb4 hc)
      case' g2 =>
        have fz := fr
        obtain ⟨cs, ec, hcs, lcs⟩ := cut_ints [v1, 1 * 2 ^ v2.toNat, 0] none (some 2)
        refine ⟨_, rfl, .inl ⟨rfl, _, SqL.of fl2⟩, _, rfl, _, rfl, _, rfl, _, rfl, q, _, rfl, SqL.of fz, fun c hc => ?_⟩
        refine ⟨q, c, _, _, rfl, rfl, at_new fz hc, upd_same, (by rw [ec, List.length_map, List.length_map]; exact Nat.le_trans (Nat.add_le_add (Nat.le_refl 3) lcs) (by show 3 + 3 ≤ sizeLine; decide)), fun d hd => ?_⟩
        have sm5 := (sm2.new (o := .lst (cutV ([v1, 1 * 2 ^ v2.toNat, 0].map V.int) none (some 2))) hc).new (o := .lst ([v1, 1 * 2 ^ v2.toNat, 0].map V.int ++ cutV ([v1, 1 * 2 ^ v2.toNat, 0].map V.int) none (some 2))) hd
        have fb5 := (fun h => at_new (p := b) (o := o3) (u := .lst ([v1, 1 * 2 ^ v2.toNat, 0].map V.int ++ cutV ([v1, 1 * 2 ^ v2.toNat, 0].map V.int) none (some 2))) h hd) (at_new fb2 hc)
        have ndb : d ≠ b := (fun h => (ne_of_none (a := b) (o := o3) h hd).symm) (at_new fb2 hc)
        have B4 := B3.mono (show n + 1 + 4 * (i : Int) + 1 + 1 ≤ n + 1 + 4 * (i : Int) + 1 + 1 + 1 by omega)
        have inz := hin3
      all_goals
        have fl5 := sm5 l _ nlb hl1
        refine ⟨b, d, _, _, _, rfl, fb5, B4, by omega, upd_same, ndb, by simp, (by rw [ec, List.length_append, List.length_map, List.length_map]; simp at lcs ⊢; omega), fun j z o5 hj B5 => ?_⟩
        rw [ec, ← List.map_append] at hj
        obtain ⟨y', ey, rfl, _, _⟩ := at_map hj
        have hyy : 0 ≤ y' ∧ y' < 2 ^ sz.toNat := by
          rcases List.mem_append.mp (List.mem_of_getElem? ey) with z | z
          · exact inz _ z
          · exact inz _ (hcs _ z)
        refine ⟨l, _, _, rfl, rfl, (upd_ne nlb).trans fl5, (by rw [List.length_map, hlen]; exact Nat.lt_trans hil (by decide)), ?_⟩
        refine ⟨ns ++ [y'], o5, _, _, rfl, ?_, (by rw [upd_ne nbl]; exact upd_same), B5.mono (by omega), (by rw [upd_same, List.map_append]; rfl), hin.snoc hyy, (by rw [List.length_append, hlen]; rfl)⟩
        intro c' u' nc e'
        rw [upd_ne (ne_of_none e' hl), upd_ne nc]
        exact sm5 c' u' nc (sm c' u' nc e')
    · rintro σ H1 ⟨ns, o1, t, u, rfl, sm, hb1, B1, hl1, hin, hlen⟩
      refine ⟨_, rfl, l, _, rfl, .inl ⟨SqL.of hl1, fun p hp => ?_⟩⟩
      have nlp : l ≠ p := ne_of_none hl1 hp
      refine k p ns _ o1 ?_ (sm.new hp) (by rw [upd_ne (ne_of_none hb1 hp)]; exact hb1) (B1.mono (by omega)) upd_same hin (by omega)
      cases e : H p with
      | none => rfl
      | some u =>
        have npb : p ≠ b := fun z => by subst z; rw [hb1] at hp; cases hp
        rw [sm p u npb e] at hp
        cases hp
end
end X1
set_option Elab.async false
set_option maxRecDepth 100000
set_option maxHeartbeats 4000000
namespace X1
open PySem L2
section
variable {P : Program} {w : World} {K : PySem.W.Frag} {mg : Str → Option Value} {base : Heap}
/-! ### _law_plan -/
theorem scPlan : FnScope ["_law_box_here", "_law_size", "_law_many"] ["_law_box_here", "_law_size", "_law_many"] (defScope sPlan) := ⟨rfl, rfl, rfl, by decide +kernel, rfl, by decide +kernel, by decide +kernel⟩
theorem ok_plan {f f1 f2 f3 : Addr} {fd fd1 fd2 fd3 : FuncData} (A0 : At K mg "_law_plan" sPlan ["_law_box_here", "_law_size", "_law_many"] f fd) (A1 : At K mg "_law_take" sTake ["_law_box_here", "_law_many"] f1 fd1)
    (A2 : At K mg "_law_of" sOf ["_law_box_here", "_law_some"] f2 fd2) (A3 : At K mg "_law_lot" sLot ["_law_box_here", "_law_size", "_law_most"] f3 fd3) (T : Txt K mg) : FnOk P w K mg base CX0 4 f fd ["_law_box_here", "_law_size", "_law_many"] spLot := by
  have G3 : FnOk P w K mg base CX0 3 f3 fd3 ["_law_box_here", "_law_size", "_law_most"] spLot := ok_lot A3 A1 A2 T
  refine A0.fn.ok scPlan (fun vs H Q E h => ?_) (fun cdv A outer s H vs Q E hr h => ?_)
  · obtain ⟨b, n, sz, m, o, rfl, _⟩ := h
    rfl
  · obtain ⟨b, n, sz, m, o, rfl, rest⟩ := h
    refine ⟨_, pss_one (ps_ret (pe_call G3 hr (by rfl) A3.mg A3.fn.kp A3.bi .nil pass0 (pa_cons (pv 0) (pa_cons (pv 1) (pa_cons (pv 2) pa_nil))))), ?_⟩
    exact ⟨_, rfl, _, rfl, _, rfl, b, n, sz, m, o, rfl, rest⟩
/-! ### bank -/
/-! ### bank_of -/
def spBankOf : Sp := fun vs H Q _ => ∃ (p : Addr) (ms : List Int) (a : Int), vs = [.ref p, .int a] ∧ H p = some (.tup (ms.map V.int)) ∧ ms.length ≤ 16 ∧ (∀ m ∈ ms, 0 ≤ m) ∧ 0 ≤ a ∧ a < 65536 ∧ ∀ H', Same H H' → Q (.int (bankOf ms a)) H'
theorem scBankOf : FnScope ["masks", "address", "index", "mask"] ["masks", "address"] (defScope sBankOf) := ⟨rfl, rfl, rfl, by decide +kernel, rfl, by decide +kernel, by decide +kernel⟩
theorem ok_bankOf {f f1 f8 : Addr} {fd fd1 fd8 : FuncData} (A0 : At K mg "bank_of" sBankOf ["masks", "address"] f fd) (A1 : At K mg "is_int" sIsInt ["value"] f1 fd1) (A8 : At K mg "parity" sParity ["number"] f8 fd8) (T : Txt K mg) : FnOk P w K mg base CX0 3 f fd ["masks", "address"] spBankOf := by
  have G8 : FnOk P w K mg base CX0 2 f8 fd8 ["number"] spParity := ok_parity A8 A1 T
  refine A0.fn.ok scBankOf (fun vs H Q E h => ?_) (fun cdv A outer s H vs Q E hr h => ?_)
  · obtain ⟨p, ms, a, rfl, _⟩ := h
    rfl
  · obtain ⟨p, ms, a, rfl, hp, hl, hin, a0, a1, k⟩ := h
    refine ⟨_, (pss_one (ps_ret (pe_callB (cr_sum rfl) (by rfl) T.sum (by decide +kernel) (pa_cons (pe_lc (own := [("index", 2), ("mask", 3)]) (g := gTup K 2 (gCons (gName 2) (gCons (gName 3) gNil))) (tt := tYes) rfl scBankOf.nd (G.pi_enumT (by rfl) T.enum (pa_cons (pv 0) pa_nil)) (blkOk_by (N := ["masks", "address", "index", "mask"]) (sc := defScope sBankOf) (by decide +kernel)) (fun _ _ _ _ _ => by exact pg_tup rfl (pgs_cons (pg_name (i := 2) scBankOf.nd rfl (Or.inl rfl)) (pgs_cons (pg_name (i := 3) scBankOf.nd rfl (Or.inl rfl)) pgs_nil))) (fun _ _ _ _ _ => pts_nil)
      (fun _ _ _ _ _ => pe_op op_shl (pe_call G8 hr (by rfl) A8.mg A8.fn.kp A8.bi .nil pass0 (pa_cons (pe_op op_and (pv 1) (pv 3)) pa_nil)) (pv 2))) pa_nil)))), ?_⟩
    have hbig : a.toNat < 2 ^ 2000 := Nat.lt_of_lt_of_le (show a.toNat < 65536 by omega) (by decide +kernel)
    refine ⟨_, rfl, p, _, rfl, SqT.of hp, fun D hD => ?_⟩
    have npD : p ≠ D := ne_of_none hp hD
    refine lc_it (G.walk_enumT (K := K) (a := p) (xs := ms.map V.int)) (fun i H' => (∀ b o, b ≠ D → H b = some o → H' b = some o) ∧ H' D = some (.lst (((bits ms a).take i).map V.int))) ⟨fun b o n e => by rw [upd_ne n]; exact e, upd_same⟩
      (fun i H' _ ⟨s1, _⟩ => SqT.of (s1 _ _ npD hp)) ?_ ?_
    · rintro i x H2 H3 hi ⟨s1, hd⟩ ⟨Tp, x1, x2, rfl, hT, rfl, e1, e2⟩
      cases e1
      obtain ⟨m, em, rfl, hil, eg⟩ := at_map e2
      have hm := hin m (List.mem_of_getElem? em)
      have nTD : D ≠ Tp := ne_of_none hd hT
      refine ⟨Tp, _, rfl, SqT.of upd_same, rfl, _, _, rfl, _, _, rfl, rfl, rfl, yes (iteT ?_)⟩
      refine ⟨_, rfl, _, rfl, _, _, rfl, rfl, (a.toNat &&& m.toNat), ?_, Nat.lt_of_le_of_lt Nat.and_le_left hbig, _, rfl, _, _, rfl, rfl, ⟨by omega, by omega, ?_⟩, _, by rw [upd_ne nTD]; exact hd, ?_, ?_⟩
      · show [V.int (Builtin.bitAnd a m)] ++ [] = _
        rw [PyProof.Rows.bitAnd_pp a0 hm]
        rfl
      · have := par_lt (a.toNat &&& m.toNat)
        omega
      · rw [List.length_map, List.length_take, bits_length]
        exact Nat.lt_of_le_of_lt (Nat.min_le_left _ _) (Nat.lt_trans hil (Nat.lt_of_le_of_lt hl (by decide)))
      · refine ⟨fun b o n e => ?_, ?_⟩
        · rw [upd_ne n, upd_ne (ne_of_none (s1 b o n e) hT)]
          exact s1 b o n e
        · rw [upd_same, ← bits_next ms a hil, List.map_append]
          unfold bitOf
          rw [eg]
          rfl
    · rintro H' ⟨s1, hd⟩
      rw [List.length_map, List.take_of_length_le (by rw [bits_length]; exact Nat.le_refl _)] at hd
      exact ⟨D, _, rfl, SqL.of hd, k H' fun b o e => s1 b o (ne_of_none e hD) e⟩
/-! ### bank -/
def spBank : Sp := fun vs H Q _ => ∃ (wd a : Int) (p : Addr) (ms : List Int), vs = [.int wd, .ref p, .int a] ∧ 1 ≤ wd ∧ wd ≤ 16 ∧ H p = some (.tup (ms.map V.int)) ∧ ms.length ≤ 16 ∧ InW wd ms ∧ 0 ≤ a ∧ a < 2 ^ wd.toNat ∧
  ∀ H', Same H H' → Q (.int (bankOf ms a)) H'
theorem scBank : FnScope ["width", "masks", "address"] ["width", "masks", "address"] (defScope sBank) := ⟨rfl, rfl, rfl, by decide +kernel, rfl, by decide +kernel, by decide +kernel⟩
theorem ok_bank {f f1 f2 f3 f4 f5 f6 f7 f8 f9 : Addr} {fd fd1 fd2 fd3 fd4 fd5 fd6 fd7 fd8 fd9 : FuncData} (A0 : At K mg "bank" sBank ["width", "masks", "address"] f fd) (A1 : At K mg "is_int" sIsInt ["value"] f1 fd1)
    (A2 : At K mg "is_address" sIsAddr ["width", "value"] f2 fd2) (A3 : At K mg "are_addresses" sAreAddrs ["width", "value", "most"] f3 fd3) (A4 : At K mg "are_masks" sAreMasks ["width", "value"] f4 fd4)
    (A5 : At K mg "check_width" sCkWidth ["width"] f5 fd5) (A6 : At K mg "check_map" sCkMap ["width", "masks"] f6 fd6) (A7 : At K mg "check_address" sCkAddr ["width", "address"] f7 fd7) (A8 : At K mg "parity" sParity ["number"] f8 fd8) (AB : At K mg "bank_of" sBankOf ["masks", "address"] f9 fd9) (T : Txt K mg) :
    FnOk P w K mg base CX0 6 f fd ["width", "masks", "address"] spBank := by
  have G5 : FnOk P w K mg base CX0 3 f5 fd5 ["width"] spCkWidth := ok_ckWidth A5 A1 T
  have G6 : FnOk P w K mg base CX0 5 f6 fd6 ["width", "masks"] (spCkMap K) := ok_ckMap A6 A1 A2 A3 A4 T
  have G7 : FnOk P w K mg base CX0 3 f7 fd7 ["width", "address"] spCkAddr := ok_ckAddr A7 A1 A2 T
  have GB : FnOk P w K mg base CX0 3 f9 fd9 ["masks", "address"] spBankOf := ok_bankOf AB A1 A8 T
  refine A0.fn.ok scBank (fun vs H Q E h => ?_) (fun cdv A outer s H vs Q E hr h => ?_)
  · obtain ⟨wd, a, p, ms, rfl, _⟩ := h
    rfl
  · obtain ⟨wd, a, p, ms, rfl, w1, w2, hp, hl, hin, a0, a1, k⟩ := h
    have hr2 : Room 2 _ := hr.mono (by decide)
    have hr3 : Room 3 _ := hr.mono (by decide)
    refine ⟨_, pss_cons (ps_expr (pe_call G5 (hr.mono (by decide)) (by rfl) A5.mg A5.fn.kp A5.bi .nil pass0 (pa_cons (pv 0) pa_nil)))
      (pss_cons (ps_expr (pe_call G6 hr (by rfl) A6.mg A6.fn.kp A6.bi .nil pass0 (pa_cons (pv 0) (pa_cons (pv 1) pa_nil))))
      (pss_cons (ps_expr (pe_call G7 hr3 (by rfl) A7.mg A7.fn.kp A7.bi .nil pass0 (pa_cons (pv 0) (pa_cons (pv 2) pa_nil))))
      (pss_one (ps_ret (pe_call GB hr3 (by rfl) AB.mg AB.fn.kp AB.bi .nil pass0 (pa_cons (pv 1) (pa_cons (pv 2) pa_nil))))))), ?_⟩
    refine ⟨_, rfl, wd, rfl, w1, w2, ?_⟩
    refine ⟨_, rfl, _, rfl, wd, p, ms, rfl, by omega, by omega, hp, hl, hin, fun H1 sm1 => ?_⟩
    refine ⟨_, rfl, _, rfl, wd, a, rfl, by omega, by omega, a0, a1, ?_⟩
    obtain ⟨q1, q2⟩ := pw_le w1 w2
    exact ⟨_, rfl, _, rfl, p, ms, a, rfl, sm1 _ _ hp, hl, fun m hm => (hin m hm).1, a0, by omega, fun H2 sm2 => k H2 (sm1.trans sm2)⟩
/-! ### what is shown of two ints -/
theorem two_shown {u : Int} (h0 : 0 ≤ u) (h1 : u < 65536) : (PyData.list [.int u, .int u]).showable = true ∧ (PyData.list [.int u, .int u]).shown.length ≤ sizeLine := by
  have hlog : u.natAbs.log2 < 1920 := by
    by_cases z : u.natAbs = 0
    · rw [z]
      decide
    · exact (Nat.log2_lt z).mpr (Nat.lt_of_lt_of_le (show u.natAbs < 65536 by omega) (by decide +kernel))
  have hl : (Str.ofString (toString u)).length ≤ 1921 := by
    rw [ofString_length]
    exact int_text_length_le (by decide) hlog
  refine ⟨?_, ?_⟩
  · show (decide (u.natAbs.log2 < 1920) && (decide (u.natAbs.log2 < 1920) && true)) = true
    rw [decide_eq_true hlog]
    rfl
  · show (listText [Str.ofString (toString u), Str.ofString (toString u)]).length ≤ sizeLine
    have h := listText_len_le [Str.ofString (toString u), Str.ofString (toString u)]
    have e : ([Str.ofString (toString u), Str.ofString (toString u)].map (·.length)).sum = (Str.ofString (toString u)).length + (Str.ofString (toString u)).length := by simp
    rw [e] at h
    simp only [List.length_cons, List.length_nil] at h
    rw [sizeLine_eq]
    omega
/-! ### _law_right -/
def spRight : Sp := fun vs H Q _ => ∃ (b : Addr) (o : HO), vs = [.ref b] ∧ H b = some o ∧ BoxO 0 o ∧ ∀ H', Sam b H H' → Q (.bl true) H'
theorem scRight : FnScope ["_law_box_here", "_law_turn", "_law_size", "_law_plan_here", "_law_spot", "_law_due"] ["_law_box_here"] (defScope sRight) := ⟨rfl, rfl, rfl, by decide +kernel, rfl, by decide +kernel, by decide +kernel⟩
/-- bank(address, width, masks) by names -/
def byNames : List Value → List Value → List Value
  | [], [a, w, m] => [w, m, a]
  | _, _ => []
def byNamesV : List V → List V → List V
  | [], [a, w, m] => [w, m, a]
  | _, _ => []
theorem kb_bank {f : Addr} {fd : FuncData} (A0 : At K mg "bank" sBank ["width", "masks", "address"] f fd) : KBinds K fd ["width", "masks", "address"] ["address", "width", "masks"] byNames byNamesV := by
  obtain ⟨oc, od, kV, doc, pm, an, cdv, ct, osl, efd, lk, hcd⟩ := A0.fn.ex
  subst efd
  refine ⟨fun s us ws _ hl => ?_, fun {vs us zs ws} h1 h2 => ?_⟩
  · match us, ws, hl with
    | [], [a, w, m], _ => exact .of_eq rfl
  · cases h1 with
    | cons _ _ => exact .nil
    | nil =>
      cases h2 with
      | nil => exact .nil
      | cons r1 h2 =>
        cases h2 with
        | nil => exact .nil
        | cons r2 h2 =>
          cases h2 with
          | nil => exact .nil
          | cons r3 h2 =>
            cases h2 with
            | nil => exact .cons r2 (.cons r3 (.cons r1 .nil))
            | cons _ _ => exact .nil
end
end X1
set_option Elab.async false
set_option maxRecDepth 100000
set_option maxHeartbeats 4000000
namespace X1
open PySem L2
theorem bankOf_nil (a : Int) : bankOf [] a = 0 := rfl
theorem pw_16 {sz : Int} (h1 : 1 ≤ sz) (h2 : sz ≤ 16) {k : Nat} (hk : k ≤ 16) : (2 : Int) ^ k ≤ 65536 := by
  have e : ∀ j : Nat, j < 17 → (2 : Int) ^ j ≤ 65536 := by decide
  exact e k (by omega)
section
variable {P : Program} {w : World} {K : PySem.W.Frag} {mg : Str → Option Value} {base : Heap}
theorem ok_right {f f1 f2 f3 f4 f5 f6 f7 : Addr} {fd fd1 fd2 fd3 fd4 fd5 fd6 fd7 : FuncData} (A0 : At K mg "_law_right" sRight ["_law_box_here"] f fd) (A1 : At K mg "_law_take" sTake ["_law_box_here", "_law_many"] f1 fd1)
    (A2 : At K mg "_law_of" sOf ["_law_box_here", "_law_some"] f2 fd2) (A3 : At K mg "_law_lot" sLot ["_law_box_here", "_law_size", "_law_most"] f3 fd3) (A4 : At K mg "_law_plan" sPlan ["_law_box_here", "_law_size", "_law_many"] f4 fd4)
    (A5 : At K mg "_law_place" sPlace ["_law_plan_here", "_law_spot"] f5 fd5) (A6 : At K mg "bank" sBank ["width", "masks", "address"] f6 fd6) (A7 : At K mg "_law_odd_ones" sOdd ["_law_number"] f7 fd7)
    (G6 : FnOk P w K mg base CX0 6 f6 fd6 ["width", "masks", "address"] spBank) (T : Txt K mg) : G.FnG P w K mg base 7 f fd ["_law_box_here"] spRight := by
  have G1 : FnOk P w K mg base CX0 1 f1 fd1 ["_law_box_here", "_law_many"] spTake := ok_take A1
  have G2 : FnOk P w K mg base CX0 2 f2 fd2 ["_law_box_here", "_law_some"] spOf := ok_of A2 A1 T
  have G4 : FnOk P w K mg base CX0 4 f4 fd4 ["_law_box_here", "_law_size", "_law_many"] spLot := ok_plan A4 A1 A2 A3 T
  have G5 : FnOk P w K mg base CX0 2 f5 fd5 ["_law_plan_here", "_law_spot"] (spPlace K) := ok_place A5 A7 T
  refine G.okG A0.fn scRight (fun vs H Q E h => ?_) (fun cdv A outer s H vs Q E hga hr h => ?_)
  · obtain ⟨b, o, rfl, _⟩ := h
    rfl
  · obtain ⟨b, o, rfl, hb, B, k⟩ := h
    have hr1 : Room 1 _ := hr.mono (by decide)
    have hr2 : Room 2 _ := hr.mono (by decide)
    have hr4 : Room 4 _ := hr.mono (by decide)
    have hgu : (A.deeper (PyProof.Rows.envOfC "_law_right" (defScope sRight) s.heap.objs.size f cdv)).guards = some [] := hga
    refine ⟨_, (pss_cons (ps_for PassesOwn.never rfl (pi_range1 (by rfl) T.range (pa_cons pe_int pa_nil)) (pg_name (i := 1) scRight.nd rfl (Or.inl rfl)) (pss_cons (ps_set (i := 2) scRight.nd rfl (Or.inl rfl) (pe_call G2 hr2 (by rfl) A2.mg A2.fn.kp A2.bi .nil pass0 (pa_cons (pv 0) (pa_cons (pe_lst (pa_cons pe_int (pa_cons pe_int (pa_cons pe_int (pa_cons pe_int (pa_cons pe_int (pa_cons pe_int (pa_cons pe_int (pa_cons (pe_op op_add pe_int (pe_call G1 hr1 (by rfl) A1.mg A1.fn.kp A1.bi .nil pass0 (pa_cons (pv 0) (pa_cons pe_int pa_nil)))) pa_nil))))))))) pa_nil))))
      (pss_cons (ps_set (i := 3) scRight.nd rfl (Or.inl rfl) (pe_call G4 hr4 (by rfl) A4.mg A4.fn.kp A4.bi .nil pass0 (pa_cons (pv 0) (pa_cons (pv 2) (pa_cons pe_int pa_nil)))))
      (pss_cons (ps_for PassesOwn.never rfl (pi_tup (pe_tup (pa_cons pe_int (pa_cons (pe_op op_sub (pe_op op_shl pe_int (pv 2)) pe_int) (pa_cons (pe_op op_shl pe_int (pe_call G1 hr1 (by rfl) A1.mg A1.fn.kp A1.bi .nil pass0 (pa_cons (pv 0) (pa_cons (pv 2) pa_nil)))) (pa_cons (pe_call G1 hr1 (by rfl) A1.mg A1.fn.kp A1.bi .nil pass0 (pa_cons (pv 0) (pa_cons (pe_op op_shl pe_int (pv 2)) pa_nil))) pa_nil)))))) (pg_name (i := 4) scRight.nd rfl (Or.inl rfl)) (pss_cons (ps_set (i := 5) scRight.nd rfl (Or.inl rfl) (pe_call G5 hr2 (by rfl) A5.mg A5.fn.kp A5.bi .nil pass0 (pa_cons (pv 3) (pa_cons (pv 4) pa_nil))))
      (pss_one (ps_if (pt_cmpR op_ne (pe_callB (G.call_repr_data (k := 6) hgu hr) (by rfl) T.repr (by decide +kernel) (pa_cons (pe_lst (pa_cons (pe_call G6 hr (by rfl) A6.mg A6.fn.kp A6.bi .nil pass0 (pa_cons (pv 2) (pa_cons (pv 3) (pa_cons (pv 4) pa_nil)))) (pa_cons (G.pe_callK0 G6 hr (by rfl) A6.mg A6.fn.kp (kb_bank A6) pass0 (pk_cons (pv 4) (pk_cons (pv 2) (pk_cons (pv 3) pk_nil)))) pa_nil))) pa_nil)) (pe_callB (G.call_repr_data (k := 6) hgu hr) (by rfl) T.repr (by decide +kernel) (pa_cons (pe_lst (pa_cons (pv 5) (pa_cons (pv 5) pa_nil))) pa_nil)) (nomark _)) (pss_one (ps_ret pe_bl)) pss_nil))))
      (pss_one (ps_if (pt_cmpR op_ne (pe_call G6 hr (by rfl) A6.mg A6.fn.kp A6.bi .nil pass0 (pa_cons (pv 2) (pa_cons (pe_tup pa_nil) (pa_cons (pe_call G1 hr1 (by rfl) A1.mg A1.fn.kp A1.bi .nil pass0 (pa_cons (pv 0) (pa_cons (pe_op op_shl pe_int (pv 2)) pa_nil))) pa_nil)))) pe_int (nomark _)) (pss_one (ps_ret pe_bl)) pss_nil))))))
      (pss_one (ps_ret pe_bl))), ?_⟩
    have big : ∀ {x : Int}, x ≤ 70000 → x < 2 ^ 1000 := fun h => Int.lt_of_le_of_lt h (by decide +kernel)
    refine ⟨_, rfl, by decide, by decide, for_range (lo := 0) (n := 25) (fun i σ H' => ∃ (o1 : HO) (t1 t2 t3 t4 t5 : Option V), σ = [some (.ref b), t1, t2, t3, t4, t5] ∧ Sam b H H' ∧ H' b = some o1 ∧ BoxO (100 * (i : Int)) o1)
      ⟨o, none, none, none, none, none, rfl, Sam.refl b H, hb, by simpa using B⟩ ?_ ?_⟩
    · rintro i σ H1 hi ⟨o1, t1, t2, t3, t4, t5, rfl, sm, hb1, B1⟩
      -- the width
      refine ⟨_, rfl, _, rfl, b, _, _, o1, rfl, hb1, B1, by omega, by decide, big (by decide), fun v o2 v0 v1 B2 => ?_⟩
      refine ⟨_, _, rfl, rfl, by show 8 ≤ sizeLine; decide, fun q hq => ?_⟩
      have nqb : q ≠ b := (ne_of_none (H := upd H1 b o2) upd_same hq).symm
      refine ⟨b, q, _, o2, ([1, 2, 3, 4, 6, 8, 16, 1 + v].map V.int), rfl, at_new upd_same hq, B2, by omega, upd_same, nqb, by show 0 < 8; decide, by show 8 ≤ 1000; decide, fun j z o3 hj B3 => ?_⟩
      obtain ⟨sz, ez, rfl, _, _⟩ := at_map hj
      have hsz : 1 ≤ sz ∧ sz ≤ 16 := by
        have hm := List.mem_of_getElem? ez
        simp only [List.mem_cons, List.not_mem_nil, or_false] at hm
        omega
      have smA : Sam b H1 _ := ((Sam.upd (o := o2)).new (o := .lst ([1, 2, 3, 4, 6, 8, 16, 1 + v].map V.int)) hq).trans (Sam.upd (o := o3))
      -- the map
      refine ⟨_, rfl, _, rfl, b, _, sz, 16, o3, rfl, upd_same, B3, by omega, hsz.1, hsz.2, by decide, by decide, fun p ns H2 o4 hpn sm2 hb2 B4 hp2 hin hlen => ?_⟩
      obtain ⟨p2a, p2b⟩ := pw_le hsz.1 hsz.2
      -- the addresses
      refine ⟨_, rfl, _, _, rfl, rfl, ⟨by omega, by omega, by decide⟩, _, _, rfl, rfl, ?_⟩
      refine ⟨_, rfl, _, rfl, b, _, sz, o4, rfl, hb2, B4, by omega, by omega, big (by omega), fun v1 o5 w0 w1 B5 => ?_⟩
      refine ⟨_, _, rfl, rfl, ⟨w0, by omega, by decide⟩, ?_⟩
      refine ⟨_, rfl, _, rfl, _, _, rfl, rfl, ⟨by omega, by omega, by decide⟩, b, _, _, o5, rfl, upd_same, B5, by omega, by omega, big (by omega), fun v2 o6 x0 x1 B6 => ?_⟩
      refine ⟨by show 4 ≤ sizeLine; decide, fun tq htq => ?_⟩
      have npb : p ≠ b := fun z => by
        subst z
        rw [hb2] at hp2
        cases hp2
        obtain ⟨xs, e⟩ := B4.lst
        cases e
      have smB : Sam b H2 _ := ((Sam.upd (o := o5)).trans (Sam.upd (o := o6))).new (o := .tup ([0, 1 * 2 ^ sz.toNat - 1, 1 * 2 ^ v1.toNat, v2].map V.int)) htq
      have hpB := smB p _ npb hp2
      have hbB := (fun h => at_new (p := b) (o := o6) (u := .tup ([0, 1 * 2 ^ sz.toNat - 1, 1 * 2 ^ v1.toNat, v2].map V.int)) h htq) upd_same
      have hall : ∀ x ∈ [0, 1 * 2 ^ sz.toNat - 1, 1 * 2 ^ v1.toNat, v2], 0 ≤ x ∧ x < 2 ^ sz.toNat := fun x hx => by
        have hp2' := p2_lt hsz.1 w0 w1
        simp only [List.mem_cons, List.not_mem_nil, or_false] at hx
        rcases hx with rfl | rfl | rfl | rfl <;> omega
      have toSam : ∀ {X Y : Hp}, Same X Y → Sam b X Y := fun h c u _ e => h c u e
      have ntb : tq ≠ b := (fun h => (ne_of_none (a := b) (o := o6) h htq).symm) upd_same
      refine ⟨tq, rfl, ⟨_, SqT.of upd_same⟩, ?_⟩
      refine for_tup (K := K) (a := tq) (xs := [0, 1 * 2 ^ sz.toNat - 1, 1 * 2 ^ v1.toNat, v2].map V.int) (fun _ σ H' => ∃ (t1 t4 t5 : Option V), σ = [some (.ref b), t1, some (.int sz), some (.ref p), t4, t5] ∧ Sam b H2 H' ∧ H' b = some o6 ∧ H' p = some (.tup (ns.map V.int)) ∧ H' tq = some (.tup ([0, 1 * 2 ^ sz.toNat - 1, 1 * 2 ^ v1.toNat, v2].map V.int)))
        ⟨_, _, _, rfl, smB, hbB, hpB, upd_same⟩ (fun _ _ _ _ ⟨_, _, _, _, _, _, _, h⟩ => SqT.of h) ?_ ?_
      · rintro j x σ H3 hj3 ⟨t1', t4', t5', rfl, sm3, hb3, hp3, htq3⟩
        obtain ⟨u, eu, rfl, _, _⟩ := at_map hj3
        have hu := hall u (List.mem_of_getElem? eu)
        obtain ⟨q0, q1⟩ := bank_lt ns u
        have q2 : bankOf ns u < 65536 := Int.lt_of_lt_of_le q1 (pw_16 hsz.1 hsz.2 (by omega))
        obtain ⟨z1, z2⟩ := two_shown q0 q2
        refine ⟨_, rfl, _, rfl, p, ns, u, rfl, hp3, by omega, hu.1, fun m hm => (hin m hm).1, fun H4 s4 => ?_⟩
        refine ⟨_, rfl, _, rfl, _, rfl, sz, u, p, ns, rfl, hsz.1, hsz.2, s4 _ _ hp3, by omega, hin, hu.1, hu.2, fun H5 s5 => ?_⟩
        refine ⟨_, rfl, _, rfl, _, rfl, sz, u, p, ns, rfl, hsz.1, hsz.2, s5 _ _ (s4 _ _ hp3), by omega, hin, hu.1, hu.2, fun H6 s6 => ?_⟩
        refine ⟨by show 2 ≤ sizeLine; decide, fun e he => ?_⟩
        have sE : Same H3 H6 := (s4.trans s5).trans s6
        refine ⟨e, _, rfl, .lst (SqL.of upd_same) (.cons (.int _) (.cons (.int _) .nil)), z1, rfl, by show 1 ≤ 60; decide, z2, ?_⟩
        refine ⟨_, rfl, _, rfl, by show 2 ≤ sizeLine; decide, fun g hg => ?_⟩
        refine ⟨g, _, rfl, .lst (SqL.of upd_same) (.cons (.int _) (.cons (.int _) .nil)), z1, rfl, by show 1 ≤ 60; decide, z2, ?_⟩
        refine ⟨rfl, _, rfl, iteNS rfl ?_⟩
        have sF : ∀ c o, H3 c = some o → (upd (upd H6 e (.lst [.int (bankOf ns u), .int (bankOf ns u)])) g (.lst [.int (bankOf ns u), .int (bankOf ns u)])) c = some o := fun c o h => at_new (u := .lst [.int (bankOf ns u), .int (bankOf ns u)]) (at_new (u := .lst [.int (bankOf ns u), .int (bankOf ns u)]) (sE c o h) he) hg
        exact ⟨_, _, _, rfl, sm3.trans (toSam sF), sF _ _ hb3, sF _ _ hp3, sF _ _ htq3⟩
      · rintro σ H3 ⟨t1', t4', t5', rfl, sm3, hb3, hp3, htq3⟩
        refine ⟨_, rfl, Nat.zero_le _, fun e he => ?_⟩
        have neb : e ≠ b := (ne_of_none hb3 he).symm
        refine ⟨_, rfl, _, rfl, _, _, rfl, rfl, ⟨by omega, by omega, by decide⟩, b, _, _, o6, rfl, at_new hb3 he, B6, by omega, by omega, big (by omega), fun v3 o7 y0 y1 B7 => ?_⟩
        refine ⟨sz, v3, e, [], rfl, hsz.1, hsz.2, (upd_ne neb).trans upd_same, Nat.zero_le _, (fun x hx => by cases hx), y0, by omega, fun H4 s4 => ?_⟩
        refine ⟨rfl, _, rfl, iteNS rfl ?_⟩
        exact ⟨o7, _, _, _, _, _, rfl, (((sm.trans smA).trans sm2).trans sm3).trans (((Sam.refl b H3).new he).trans (Sam.upd.trans (toSam s4))), s4 _ _ upd_same, B7.mono (by omega)⟩
    · rintro σ H1 ⟨o1, t1, t2, t3, t4, t5, rfl, sm, hb1, B1⟩
      exact k H1 sm
end
end X1
set_option Elab.async false
set_option maxRecDepth 100000
set_option maxHeartbeats 4000000
namespace X1
open PySem L2
section
variable {P : Program} {w : World} {K : PySem.W.Frag} {mg : Str → Option Value} {base : Heap}
def spLaw (K : PySem.W.Frag) : Sp := fun vs H Q _ => ∃ (a : Addr) (ns : List Int), vs = [.ref a] ∧ SqL K H a (ns.map V.int) ∧ ns.length ≤ 63 ∧ ∀ H', Q (.bl true) H'
theorem scLaw : FnScope ["_law_script", "_law_k"] ["_law_script"] (defScope sLaw) := ⟨rfl, rfl, rfl, by decide +kernel, rfl, by decide +kernel, by decide +kernel⟩
theorem ok_law {f fR fB : Addr} {fd fdR fdB : FuncData} (A0 : Fun K "law" "law" sLaw f fd) (AR : At K mg "_law_right" sRight ["_law_box_here"] fR fdR) (AB : At K mg "_law_box" sBox ["_law_script", "_law_k"] fB fdB)
    (GR : G.FnG P w K mg base 7 fR fdR ["_law_box_here"] spRight) (T : Txt K mg) : G.FnG P w K mg base 8 f fd ["_law_script"] (spLaw K) := by
  have GB : FnOk P w K mg base CX0 1 fB fdB ["_law_script", "_law_k"] (spBox K) := ok_box AB T
  refine G.okG A0 scLaw (fun vs H Q E h => ?_) (fun cdv A outer s H vs Q E hga hr h => ?_)
  · obtain ⟨a, ns, rfl, _⟩ := h
    rfl
  · obtain ⟨a, ns, rfl, hS, hl, k⟩ := h
    have hr1 : Room 1 _ := hr.mono (by decide)
    have hgu : (A.deeper (PyProof.Rows.envOfC "law" (defScope sLaw) s.heap.objs.size f cdv)).guards = some [] := hga
    refine ⟨_, pss_one (ps_ret (pe_callB (cr_all rfl) (by rfl) T.all (by decide +kernel) (pa_cons (pe_lc (own := [("_law_k", 1)]) (g := gName 1) (tt := tYes) rfl scLaw.nd (pi_range1 (by rfl) T.range (pa_cons (pe_callB (call_max2 rfl) (by rfl) T.max (by decide +kernel) (pa_cons pe_int (pa_cons (pe_callB (call_min2 rfl) (by rfl) T.min (by decide +kernel) (pa_cons (pe_callB call_len_seq (by rfl) T.len PySem.boot_len (pa_cons (pv 0) pa_nil)) (pa_cons pe_int pa_nil))) pa_nil))) pa_nil)) (blkOk_by (N := ["_law_script", "_law_k"]) (sc := defScope sLaw) (by decide +kernel)) (fun _ _ _ _ _ => pg_name (i := 1) scLaw.nd rfl (Or.inl rfl)) (fun _ _ _ _ _ => pts_nil) (fun _ _ _ _ _ => G.pe_callG GR hgu hr (by rfl) AR.mg AR.fn.kp AR.bi .nil (pa_cons (pe_call GB hr1 (by rfl) AB.mg AB.fn.kp AB.bi .nil pass0 (pa_cons (pv 0) (pa_cons (pv 1) pa_nil))) pa_nil))) pa_nil))), ?_⟩
    refine ⟨_, rfl, a, _, rfl, .inl hS, _, _, rfl, _, _, rfl, ?_⟩
    rw [List.length_map]
    refine ⟨_, rfl, ?_, ?_, ?_⟩
    · show -(2 ^ 62) ≤ (if (if (3 : Int) < (ns.length : Int) then (3 : Int) else (ns.length : Int)) > 1 then (if (3 : Int) < (ns.length : Int) then (3 : Int) else (ns.length : Int)) else 1)
      omega
    · show (if (if (3 : Int) < (ns.length : Int) then (3 : Int) else (ns.length : Int)) > 1 then (if (3 : Int) < (ns.length : Int) then (3 : Int) else (ns.length : Int)) else 1) < 2 ^ 62
      omega
    intro D hD
    refine lc_range (lo := 0) (fun i H' => Same H H' ∧ H' D = some (.lst ((List.replicate i true).map V.bl))) ⟨fun c o e => by rw [upd_ne (ne_of_none e hD)]; exact e, upd_same⟩ ?_ ?_
    · rintro i H1 hi ⟨s1, hd⟩
      have hi3 : i < 3 := by
        have hi' : i < ((if (if (3 : Int) < (ns.length : Int) then (3 : Int) else (ns.length : Int)) > 1 then (if (3 : Int) < (ns.length : Int) then (3 : Int) else (ns.length : Int)) else 1)).toNat := hi
        omega
      refine ⟨rfl, yes (iteT ?_)⟩
      refine ⟨_, rfl, _, rfl, a, ns, i, by rw [Int.zero_add]; rfl, s1.seq hS, by omega, fun b o hb B => ?_⟩
      have nDb : D ≠ b := ne_of_none hd hb
      refine ⟨b, o, rfl, upd_same, B, fun H2 s2 => ?_⟩
      have hD2 : H2 D = some (.lst ((List.replicate i true).map V.bl)) := s2 D _ nDb ((upd_ne nDb).trans hd)
      refine ⟨_, hD2, ?_, fun c u e => ?_, ?_⟩
      · rw [List.length_map, List.length_replicate]
        exact Nat.lt_trans hi3 (by decide)
      · have ncD : c ≠ D := ne_of_none e hD
        have e1 := s1 c u e
        have ncb : c ≠ b := ne_of_none e1 hb
        rw [upd_ne ncD]
        exact s2 c u ncb ((upd_ne ncb).trans e1)
      · rw [upd_same, List.replicate_succ', List.map_append]
        rfl
    · rintro H1 ⟨s1, hd⟩
      refine ⟨D, _, rfl, SqL.of hd, ?_⟩
      rw [show ∀ j : Nat, (List.replicate j true).all id = true from fun j => by simp]
      exact k H1
end
/-! ### what the top has written, the head -/
theorem all_mk {l : PySem.W.OpenLaw} {w : World} {K : PySem.W.Frag} {h : Heap} {mg : Str → Option Value} {fa fW f0 f1 f2 f3 f4 f5 f6 f7 f8 f9 f10 f11 f12 f13 f14 f15 f16 f17 f18 : Addr} (X : K.In h) (Gn : h.Ns mainGlobals mg) (hfa : mg "law" = some (.ref fa))
    {od0 an0 od1 an1 od2 an2 od3 an3 od4 an4 od5 an5 od6 an6 od7 an7 od8 an8 od9 an9 od10 an10 od11 an11 od12 an12 od13 an13 od14 an14 od15 an15 od16 an16 od17 an17 od18 an18 : Option Addr} {sl0 sl1 sl2 sl3 sl4 sl5 sl6 sl7 sl8 sl9 sl10 sl11 sl12 sl13 sl14 sl15 sl16 sl17 sl18 : Array (Option Value)} {oc0 kV0 dc0 pm0 cd0 ct0 oc1 kV1 dc1 pm1 cd1 ct1 oc2 kV2 dc2 pm2 cd2 ct2 oc3 kV3 dc3 pm3 cd3 ct3 oc4 kV4 dc4 pm4 cd4 ct4 oc5 kV5 dc5 pm5 cd5 ct5 oc6 kV6 dc6 pm6 cd6 ct6 oc7 kV7 dc7 pm7 cd7 ct7 oc8 kV8 dc8 pm8 cd8 ct8 oc9 kV9 dc9 pm9 cd9 ct9 oc10 kV10 dc10 pm10 cd10 ct10 oc11 kV11 dc11 pm11 cd11 ct11 oc12 kV12 dc12 pm12 cd12 ct12 oc13 kV13 dc13 pm13 cd13 ct13 oc14 kV14 dc14 pm14 cd14 ct14 oc15 kV15 dc15 pm15 cd15 ct15 oc16 kV16 dc16 pm16 cd16 ct16 oc17 kV17 dc17 pm17 cd17 ct17 oc18 kV18 dc18 pm18 cd18 ct18 : Value} {tk0 tk1 : Tok}
    {odW anW : Option Addr} {slW : Array (Option Value)} {ocW kVW dcW pmW cdW ctW : Value}
    (aW : PySem.W.nsIn K mainGlobals "is_width" = some (some (.ref fW))) (lW : K.lookup fW = some ⟨ocW, odW, .func (PySem.W.fnOf "is_width" "is_width" (defArgs sIsWidth) (defBody sIsWidth) (defScope sIsWidth) .none kVW dcW pmW anW cdW ctW), slW⟩) (cW : PySem.W.codeIn K cdW "is_width" = true) (kW : PySem.W.keepIn K (.ref fW) = true)
    (a0 : PySem.W.nsIn K mainGlobals "is_int" = some (some (.ref f0))) (l0 : K.lookup f0 = some ⟨oc0, od0, .func (PySem.W.fnOf "is_int" "is_int" (defArgs sIsInt) (defBody sIsInt) (defScope sIsInt) .none kV0 dc0 pm0 an0 cd0 ct0), sl0⟩) (c0 : PySem.W.codeIn K cd0 "is_int" = true) (k0 : PySem.W.keepIn K (.ref f0) = true)
    (a1 : PySem.W.nsIn K mainGlobals "is_address" = some (some (.ref f1))) (l1 : K.lookup f1 = some ⟨oc1, od1, .func (PySem.W.fnOf "is_address" "is_address" (defArgs sIsAddr) (defBody sIsAddr) (defScope sIsAddr) .none kV1 dc1 pm1 an1 cd1 ct1), sl1⟩) (c1 : PySem.W.codeIn K cd1 "is_address" = true) (k1 : PySem.W.keepIn K (.ref f1) = true)
    (a2 : PySem.W.nsIn K mainGlobals "are_addresses" = some (some (.ref f2))) (l2 : K.lookup f2 = some ⟨oc2, od2, .func (PySem.W.fnOf "are_addresses" "are_addresses" (defArgs sAreAddrs) (defBody sAreAddrs) (defScope sAreAddrs) .none kV2 dc2 pm2 an2 cd2 ct2), sl2⟩) (c2 : PySem.W.codeIn K cd2 "are_addresses" = true) (k2 : PySem.W.keepIn K (.ref f2) = true)
    (a3 : PySem.W.nsIn K mainGlobals "are_masks" = some (some (.ref f3))) (l3 : K.lookup f3 = some ⟨oc3, od3, .func (PySem.W.fnOf "are_masks" "are_masks" (defArgs sAreMasks) (defBody sAreMasks) (defScope sAreMasks) .none kV3 dc3 pm3 an3 cd3 ct3), sl3⟩) (c3 : PySem.W.codeIn K cd3 "are_masks" = true) (k3 : PySem.W.keepIn K (.ref f3) = true)
    (a4 : PySem.W.nsIn K mainGlobals "check_width" = some (some (.ref f4))) (l4 : K.lookup f4 = some ⟨oc4, od4, .func (PySem.W.fnOf "check_width" "check_width" (defArgs sCkWidth) (defBody sCkWidth) (defScope sCkWidth) .none kV4 dc4 pm4 an4 cd4 ct4), sl4⟩) (c4 : PySem.W.codeIn K cd4 "check_width" = true) (k4 : PySem.W.keepIn K (.ref f4) = true)
    (a5 : PySem.W.nsIn K mainGlobals "check_map" = some (some (.ref f5))) (l5 : K.lookup f5 = some ⟨oc5, od5, .func (PySem.W.fnOf "check_map" "check_map" (defArgs sCkMap) (defBody sCkMap) (defScope sCkMap) .none kV5 dc5 pm5 an5 cd5 ct5), sl5⟩) (c5 : PySem.W.codeIn K cd5 "check_map" = true) (k5 : PySem.W.keepIn K (.ref f5) = true)
    (a6 : PySem.W.nsIn K mainGlobals "check_address" = some (some (.ref f6))) (l6 : K.lookup f6 = some ⟨oc6, od6, .func (PySem.W.fnOf "check_address" "check_address" (defArgs sCkAddr) (defBody sCkAddr) (defScope sCkAddr) .none kV6 dc6 pm6 an6 cd6 ct6), sl6⟩) (c6 : PySem.W.codeIn K cd6 "check_address" = true) (k6 : PySem.W.keepIn K (.ref f6) = true)
    (a7 : PySem.W.nsIn K mainGlobals "parity" = some (some (.ref f7))) (l7 : K.lookup f7 = some ⟨oc7, od7, .func (PySem.W.fnOf "parity" "parity" (defArgs sParity) (defBody sParity) (defScope sParity) .none kV7 dc7 pm7 an7 cd7 ct7), sl7⟩) (c7 : PySem.W.codeIn K cd7 "parity" = true) (k7 : PySem.W.keepIn K (.ref f7) = true)
    (a8 : PySem.W.nsIn K mainGlobals "bank_of" = some (some (.ref f8))) (l8 : K.lookup f8 = some ⟨oc8, od8, .func (PySem.W.fnOf "bank_of" "bank_of" (defArgs sBankOf) (defBody sBankOf) (defScope sBankOf) .none kV8 dc8 pm8 an8 cd8 ct8), sl8⟩) (c8 : PySem.W.codeIn K cd8 "bank_of" = true) (k8 : PySem.W.keepIn K (.ref f8) = true)
    (a9 : PySem.W.nsIn K mainGlobals "bank" = some (some (.ref f9))) (l9 : K.lookup f9 = some ⟨oc9, od9, .func (PySem.W.fnOf "bank" "bank" (defArgs sBank) (defBody sBank) (defScope sBank) .none kV9 dc9 pm9 an9 cd9 ct9), sl9⟩) (c9 : PySem.W.codeIn K cd9 "bank" = true) (k9 : PySem.W.keepIn K (.ref f9) = true)
    (a10 : PySem.W.nsIn K mainGlobals "_law_box" = some (some (.ref f10))) (l10 : K.lookup f10 = some ⟨oc10, od10, .func (PySem.W.fnOf "_law_box" "_law_box" (defArgs sBox) (defBody sBox) (defScope sBox) .none kV10 dc10 pm10 an10 cd10 ct10), sl10⟩) (c10 : PySem.W.codeIn K cd10 "_law_box" = true) (k10 : PySem.W.keepIn K (.ref f10) = true)
    (a11 : PySem.W.nsIn K mainGlobals "_law_take" = some (some (.ref f11))) (l11 : K.lookup f11 = some ⟨oc11, od11, .func (PySem.W.fnOf "_law_take" "_law_take" (defArgs sTake) (defBody sTake) (defScope sTake) .none kV11 dc11 pm11 an11 cd11 ct11), sl11⟩) (c11 : PySem.W.codeIn K cd11 "_law_take" = true) (k11 : PySem.W.keepIn K (.ref f11) = true)
    (a12 : PySem.W.nsIn K mainGlobals "_law_of" = some (some (.ref f12))) (l12 : K.lookup f12 = some ⟨oc12, od12, .func (PySem.W.fnOf "_law_of" "_law_of" (defArgs sOf) (defBody sOf) (defScope sOf) .none kV12 dc12 pm12 an12 cd12 ct12), sl12⟩) (c12 : PySem.W.codeIn K cd12 "_law_of" = true) (k12 : PySem.W.keepIn K (.ref f12) = true)
    (a13 : PySem.W.nsIn K mainGlobals "_law_odd_ones" = some (some (.ref f13))) (l13 : K.lookup f13 = some ⟨oc13, od13, .func (PySem.W.fnOf "_law_odd_ones" "_law_odd_ones" (defArgs sOdd) (defBody sOdd) (defScope sOdd) .none kV13 dc13 pm13 an13 cd13 ct13), sl13⟩) (c13 : PySem.W.codeIn K cd13 "_law_odd_ones" = true) (k13 : PySem.W.keepIn K (.ref f13) = true)
    (a14 : PySem.W.nsIn K mainGlobals "_law_place" = some (some (.ref f14))) (l14 : K.lookup f14 = some ⟨oc14, od14, .func (PySem.W.fnOf "_law_place" "_law_place" (defArgs sPlace) (defBody sPlace) (defScope sPlace) .none kV14 dc14 pm14 an14 cd14 ct14), sl14⟩) (c14 : PySem.W.codeIn K cd14 "_law_place" = true) (k14 : PySem.W.keepIn K (.ref f14) = true)
    (a15 : PySem.W.nsIn K mainGlobals "_law_lot" = some (some (.ref f15))) (l15 : K.lookup f15 = some ⟨oc15, od15, .func (PySem.W.fnOf "_law_lot" "_law_lot" (defArgs sLot) (defBody sLot) (defScope sLot) .none kV15 dc15 pm15 an15 cd15 ct15), sl15⟩) (c15 : PySem.W.codeIn K cd15 "_law_lot" = true) (k15 : PySem.W.keepIn K (.ref f15) = true)
    (a16 : PySem.W.nsIn K mainGlobals "_law_plan" = some (some (.ref f16))) (l16 : K.lookup f16 = some ⟨oc16, od16, .func (PySem.W.fnOf "_law_plan" "_law_plan" (defArgs sPlan) (defBody sPlan) (defScope sPlan) .none kV16 dc16 pm16 an16 cd16 ct16), sl16⟩) (c16 : PySem.W.codeIn K cd16 "_law_plan" = true) (k16 : PySem.W.keepIn K (.ref f16) = true)
    (a17 : PySem.W.nsIn K mainGlobals "_law_right" = some (some (.ref f17))) (l17 : K.lookup f17 = some ⟨oc17, od17, .func (PySem.W.fnOf "_law_right" "_law_right" (defArgs sRight) (defBody sRight) (defScope sRight) .none kV17 dc17 pm17 an17 cd17 ct17), sl17⟩) (c17 : PySem.W.codeIn K cd17 "_law_right" = true) (k17 : PySem.W.keepIn K (.ref f17) = true)
    (a18 : PySem.W.nsIn K mainGlobals "law" = some (some (.ref f18))) (l18 : K.lookup f18 = some ⟨oc18, od18, .func (PySem.W.fnOf "law" "law" (defArgs sLaw) (defBody sLaw) (defScope sLaw) .none kV18 dc18 pm18 an18 cd18 ct18), sl18⟩) (c18 : PySem.W.codeIn K cd18 "law" = true) (k18 : PySem.W.keepIn K (.ref f18) = true)
    (z0 : PySem.W.nsIn K mainGlobals "isinstance" = some none)
    (z1 : PySem.W.nsIn K mainGlobals "int" = some none)
    (z2 : PySem.W.nsIn K mainGlobals "bool" = some none)
    (z3 : PySem.W.nsIn K mainGlobals "tuple" = some none)
    (z4 : PySem.W.nsIn K mainGlobals "len" = some none)
    (z5 : PySem.W.nsIn K mainGlobals "all" = some none)
    (z6 : PySem.W.nsIn K mainGlobals "sum" = some none)
    (z7 : PySem.W.nsIn K mainGlobals "enumerate" = some none)
    (z8 : PySem.W.nsIn K mainGlobals "abs" = some none)
    (z9 : PySem.W.nsIn K mainGlobals "range" = some none)
    (z10 : PySem.W.nsIn K mainGlobals "repr" = some none)
    (z11 : PySem.W.nsIn K mainGlobals "max" = some none)
    (z12 : PySem.W.nsIn K mainGlobals "min" = some none)
    (m0 : PySem.W.nsIn K mainGlobals "MOST_WIDTH" = some (some (.int 16 tk0)))
    (m1 : PySem.W.nsIn K mainGlobals "MOST_MASKS" = some (some (.int 16 tk1))) :
    ∃ fd : FuncData, (∀ (s : Shared) (v : Value), BindsTo s fd ⟨[v], []⟩ [("_law_script", v)]) ∧ ∀ base : Heap, K.In base → base.Ns mainGlobals mg → G.FnG l.prog w K mg base 8 fa fd ["_law_script"] (spLaw K) := by
  have e := hfa.symm.trans (PySem.W.mg_of X Gn a18)
  cases e
  have FW := fun_mk (st := sIsWidth) lW cW kW
  have AW : At K mg "is_width" sIsWidth ["value"] fW _ := ⟨FW, PySem.W.mg_of X Gn aW, FW.binds (ps := ["value"]) fun _ _ _ _ _ _ us hl => match us, hl with | [_], _ => rfl⟩
  have T : Txt K mg := ⟨⟨_, _, AW⟩, PySem.W.mg_none_of X Gn z0, PySem.W.mg_none_of X Gn z1, PySem.W.mg_none_of X Gn z2, PySem.W.mg_none_of X Gn z3, PySem.W.mg_none_of X Gn z4, PySem.W.mg_none_of X Gn z5, PySem.W.mg_none_of X Gn z6, PySem.W.mg_none_of X Gn z7, PySem.W.mg_none_of X Gn z8, PySem.W.mg_none_of X Gn z9, PySem.W.mg_none_of X Gn z10, PySem.W.mg_none_of X Gn z11, PySem.W.mg_none_of X Gn z12, ⟨_, PySem.W.mg_of X Gn m0⟩, ⟨_, PySem.W.mg_of X Gn m1⟩⟩
  have F0 := fun_mk (st := sIsInt) l0 c0 k0
  have A0 : At K mg "is_int" sIsInt ["value"] f0 _ := ⟨F0, PySem.W.mg_of X Gn a0, F0.binds (ps := ["value"]) fun _ _ _ _ _ _ us hl => match us, hl with | [_], _ => rfl⟩
  have F1 := fun_mk (st := sIsAddr) l1 c1 k1
  have A1 : At K mg "is_address" sIsAddr ["width", "value"] f1 _ := ⟨F1, PySem.W.mg_of X Gn a1, F1.binds (ps := ["width", "value"]) fun _ _ _ _ _ _ us hl => match us, hl with | [_, _], _ => rfl⟩
  have F2 := fun_mk (st := sAreAddrs) l2 c2 k2
  have A2 : At K mg "are_addresses" sAreAddrs ["width", "value", "most"] f2 _ := ⟨F2, PySem.W.mg_of X Gn a2, F2.binds (ps := ["width", "value", "most"]) fun _ _ _ _ _ _ us hl => match us, hl with | [_, _, _], _ => rfl⟩
  have F3 := fun_mk (st := sAreMasks) l3 c3 k3
  have A3 : At K mg "are_masks" sAreMasks ["width", "value"] f3 _ := ⟨F3, PySem.W.mg_of X Gn a3, F3.binds (ps := ["width", "value"]) fun _ _ _ _ _ _ us hl => match us, hl with | [_, _], _ => rfl⟩
  have F4 := fun_mk (st := sCkWidth) l4 c4 k4
  have A4 : At K mg "check_width" sCkWidth ["width"] f4 _ := ⟨F4, PySem.W.mg_of X Gn a4, F4.binds (ps := ["width"]) fun _ _ _ _ _ _ us hl => match us, hl with | [_], _ => rfl⟩
  have F5 := fun_mk (st := sCkMap) l5 c5 k5
  have A5 : At K mg "check_map" sCkMap ["width", "masks"] f5 _ := ⟨F5, PySem.W.mg_of X Gn a5, F5.binds (ps := ["width", "masks"]) fun _ _ _ _ _ _ us hl => match us, hl with | [_, _], _ => rfl⟩
  have F6 := fun_mk (st := sCkAddr) l6 c6 k6
  have A6 : At K mg "check_address" sCkAddr ["width", "address"] f6 _ := ⟨F6, PySem.W.mg_of X Gn a6, F6.binds (ps := ["width", "address"]) fun _ _ _ _ _ _ us hl => match us, hl with | [_, _], _ => rfl⟩
  have F7 := fun_mk (st := sParity) l7 c7 k7
  have A7 : At K mg "parity" sParity ["number"] f7 _ := ⟨F7, PySem.W.mg_of X Gn a7, F7.binds (ps := ["number"]) fun _ _ _ _ _ _ us hl => match us, hl with | [_], _ => rfl⟩
  have F8 := fun_mk (st := sBankOf) l8 c8 k8
  have A8 : At K mg "bank_of" sBankOf ["masks", "address"] f8 _ := ⟨F8, PySem.W.mg_of X Gn a8, F8.binds (ps := ["masks", "address"]) fun _ _ _ _ _ _ us hl => match us, hl with | [_, _], _ => rfl⟩
  have F9 := fun_mk (st := sBank) l9 c9 k9
  have A9 : At K mg "bank" sBank ["width", "masks", "address"] f9 _ := ⟨F9, PySem.W.mg_of X Gn a9, F9.binds (ps := ["width", "masks", "address"]) fun _ _ _ _ _ _ us hl => match us, hl with | [_, _, _], _ => rfl⟩
  have F10 := fun_mk (st := sBox) l10 c10 k10
  have A10 : At K mg "_law_box" sBox ["_law_script", "_law_k"] f10 _ := ⟨F10, PySem.W.mg_of X Gn a10, F10.binds (ps := ["_law_script", "_law_k"]) fun _ _ _ _ _ _ us hl => match us, hl with | [_, _], _ => rfl⟩
  have F11 := fun_mk (st := sTake) l11 c11 k11
  have A11 : At K mg "_law_take" sTake ["_law_box_here", "_law_many"] f11 _ := ⟨F11, PySem.W.mg_of X Gn a11, F11.binds (ps := ["_law_box_here", "_law_many"]) fun _ _ _ _ _ _ us hl => match us, hl with | [_, _], _ => rfl⟩
  have F12 := fun_mk (st := sOf) l12 c12 k12
  have A12 : At K mg "_law_of" sOf ["_law_box_here", "_law_some"] f12 _ := ⟨F12, PySem.W.mg_of X Gn a12, F12.binds (ps := ["_law_box_here", "_law_some"]) fun _ _ _ _ _ _ us hl => match us, hl with | [_, _], _ => rfl⟩
  have F13 := fun_mk (st := sOdd) l13 c13 k13
  have A13 : At K mg "_law_odd_ones" sOdd ["_law_number"] f13 _ := ⟨F13, PySem.W.mg_of X Gn a13, F13.binds (ps := ["_law_number"]) fun _ _ _ _ _ _ us hl => match us, hl with | [_], _ => rfl⟩
  have F14 := fun_mk (st := sPlace) l14 c14 k14
  have A14 : At K mg "_law_place" sPlace ["_law_plan_here", "_law_spot"] f14 _ := ⟨F14, PySem.W.mg_of X Gn a14, F14.binds (ps := ["_law_plan_here", "_law_spot"]) fun _ _ _ _ _ _ us hl => match us, hl with | [_, _], _ => rfl⟩
  have F15 := fun_mk (st := sLot) l15 c15 k15
  have A15 : At K mg "_law_lot" sLot ["_law_box_here", "_law_size", "_law_most"] f15 _ := ⟨F15, PySem.W.mg_of X Gn a15, F15.binds (ps := ["_law_box_here", "_law_size", "_law_most"]) fun _ _ _ _ _ _ us hl => match us, hl with | [_, _, _], _ => rfl⟩
  have F16 := fun_mk (st := sPlan) l16 c16 k16
  have A16 : At K mg "_law_plan" sPlan ["_law_box_here", "_law_size", "_law_many"] f16 _ := ⟨F16, PySem.W.mg_of X Gn a16, F16.binds (ps := ["_law_box_here", "_law_size", "_law_many"]) fun _ _ _ _ _ _ us hl => match us, hl with | [_, _, _], _ => rfl⟩
  have F17 := fun_mk (st := sRight) l17 c17 k17
  have A17 : At K mg "_law_right" sRight ["_law_box_here"] f17 _ := ⟨F17, PySem.W.mg_of X Gn a17, F17.binds (ps := ["_law_box_here"]) fun _ _ _ _ _ _ us hl => match us, hl with | [_], _ => rfl⟩
  have F18 := fun_mk (st := sLaw) l18 c18 k18
  refine ⟨PySem.W.fnOf "law" "law" (defArgs sLaw) (defBody sLaw) (defScope sLaw) .none kV18 dc18 pm18 an18 cd18 ct18, fun s v => .of_eq rfl, fun base _ _ => ?_⟩
  have GB := ok_bank (P := l.prog) (w := w) (base := base) A9 A0 A1 A2 A3 A4 A5 A6 A7 A8 T
  exact ok_law F18 A17 A10 (ok_right A17 A11 A12 A15 A16 A14 A9 A13 GB T) T
theorem walk {l : PySem.W.OpenLaw} {q : Program} {loose : List Str} {XP : (Str → Option Value) → Heap → Prop} {YP : World → Heap → Prop} {d : DefRec} {K : Params → PySem.W.Frag} (hn : l.most = some 63) (hdf : d.params.defaults = [])
    (hY : ∀ (w : World) (h : Heap), YP w h → (K w.params).In h)
    (F : ∀ (w : World) (mg : Str → Option Value) (fa : Addr) (h : Heap), (K w.params).In h → h.Ns mainGlobals mg → mg d.name = some (.ref fa) →
      ∃ fd : FuncData, (∀ (s : Shared) (u : Value), BindsTo s fd ⟨[u], []⟩ [("_law_script", u)]) ∧ ∀ base : Heap, (K w.params).In base → base.Ns mainGlobals mg → G.FnG l.prog w (K w.params) mg base 8 fa fd ["_law_script"] (spLaw (K w.params))) :
    PySem.W.WalkO q loose XP YP l.row.toRowW d [] (fun f vs => PySem.call f vs) :=
  G.walk_G (n := 63) (k := 8) (x := "_law_script") (sp := spLaw) hn (by decide) hdf ⟨rfl, by decide, by decide⟩ hY F (fun _ _ a ns hl hS => ⟨a, ns, rfl, hS, hl, fun _ => rfl⟩)
end X1
open PySem PySem.W PyProof.Rows
set_option maxRecDepth 100000 in
set_option maxHeartbeats 0 in
theorem PySem.Challenge.cw_xorbanks_k21_banks_of_addresses_holds : PySem.Challenge.rw_xorbanks_k21_banks_of_addresses.Holds := by
  w_on; o_law; k_head; (case hw => w_witness2)
  k_fill
  refine X1.walk (l := PySem.Challenge.rw_xorbanks_k21_banks_of_addresses) rfl rfl (fun w h Y => PySem.W.kIn_of Y) ?F
  case F =>
    intro w mg fa h KX G hmg
    refine' X1.all_mk KX G hmg ?aW ?lW ?cW ?kW ?a0 ?l0 ?c0 ?k0 ?a1 ?l1 ?c1 ?k1 ?a2 ?l2 ?c2 ?k2 ?a3 ?l3 ?c3 ?k3 ?a4 ?l4 ?c4 ?k4 ?a5 ?l5 ?c5 ?k5 ?a6 ?l6 ?c6 ?k6 ?a7 ?l7 ?c7 ?k7 ?a8 ?l8 ?c8 ?k8 ?a9 ?l9 ?c9 ?k9 ?a10 ?l10 ?c10 ?k10 ?a11 ?l11 ?c11 ?k11 ?a12 ?l12 ?c12 ?k12 ?a13 ?l13 ?c13 ?k13 ?a14 ?l14 ?c14 ?k14 ?a15 ?l15 ?c15 ?k15 ?a16 ?l16 ?c16 ?k16 ?a17 ?l17 ?c17 ?k17 ?a18 ?l18 ?c18 ?k18 ?z0 ?z1 ?z2 ?z3 ?z4 ?z5 ?z6 ?z7 ?z8 ?z9 ?z10 ?z11 ?z12 ?m0 ?m1
    (case aW => k_is)
    (case lW => k_is)
    (case cW => k_is)
    (case kW => k_is)
    (case a0 => k_is)
    (case l0 => k_is)
    (case c0 => k_is)
    (case k0 => k_is)
    (case a1 => k_is)
    (case l1 => k_is)
    (case c1 => k_is)
    (case k1 => k_is)
    (case a2 => k_is)
    (case l2 => k_is)
    (case c2 => k_is)
    (case k2 => k_is)
    (case a3 => k_is)
    (case l3 => k_is)
    (case c3 => k_is)
    (case k3 => k_is)
    (case a4 => k_is)
    (case l4 => k_is)
    (case c4 => k_is)
    (case k4 => k_is)
    (case a5 => k_is)
    (case l5 => k_is)
    (case c5 => k_is)
    (case k5 => k_is)
    (case a6 => k_is)
    (case l6 => k_is)
    (case c6 => k_is)
    (case k6 => k_is)
    (case a7 => k_is)
    (case l7 => k_is)
    (case c7 => k_is)
    (case k7 => k_is)
    (case a8 => k_is)
    (case l8 => k_is)
    (case c8 => k_is)
    (case k8 => k_is)
    (case a9 => k_is)
    (case l9 => k_is)
    (case c9 => k_is)
    (case k9 => k_is)
    (case a10 => k_is)
    (case l10 => k_is)
    (case c10 => k_is)
    (case k10 => k_is)
    (case a11 => k_is)
    (case l11 => k_is)
    (case c11 => k_is)
    (case k11 => k_is)
    (case a12 => k_is)
    (case l12 => k_is)
    (case c12 => k_is)
    (case k12 => k_is)
    (case a13 => k_is)
    (case l13 => k_is)
    (case c13 => k_is)
    (case k13 => k_is)
    (case a14 => k_is)
    (case l14 => k_is)
    (case c14 => k_is)
    (case k14 => k_is)
    (case a15 => k_is)
    (case l15 => k_is)
    (case c15 => k_is)
    (case k15 => k_is)
    (case a16 => k_is)
    (case l16 => k_is)
    (case c16 => k_is)
    (case k16 => k_is)
    (case a17 => k_is)
    (case l17 => k_is)
    (case c17 => k_is)
    (case k17 => k_is)
    (case a18 => k_is)
    (case l18 => k_is)
    (case c18 => k_is)
    (case k18 => k_is)
    (case z0 => k_is)
    (case z1 => k_is)
    (case z2 => k_is)
    (case z3 => k_is)
    (case z4 => k_is)
    (case z5 => k_is)
    (case z6 => k_is)
    (case z7 => k_is)
    (case z8 => k_is)
    (case z9 => k_is)
    (case z10 => k_is)
    (case z11 => k_is)
    (case z12 => k_is)
    (case m0 => k_is)
    (case m1 => k_is)
