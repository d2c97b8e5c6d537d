import PyProof.Rows.All
import Wide.All
import OpenK.AllK
import Wide.FinOn
import HandS.ForMost
import HandS.Wide
import HandS.IsInst
import PyProof.FString3
import PyProof.ReprRoads
import PyProof.Rows.StrIntSpec
import PyProof.Rows.RegReprOcc
import HandS.SortInts
import HandS.More
import HandS.SetFor
import HandS.Zip
import HandS.Strs
import HandS.SetBool
import HandS.SetKeys
import HandS.WideBits
import HandS.Walk
import PyProof.ReprLen
import PyProof.P3Eq
import HandS.Small
import PySem.Challenge.RW_xorbanks_k32_strides
set_option Elab.async false
set_option maxRecDepth 100000
set_option maxHeartbeats 4000000
/-! Rules of my own: powers of great ints, {n:b}, repr of data, defs that know their guards. -/
namespace G
open PySem PySem.Spec PyProof.Rows L2
open PySem.Builtin PySem.Builtin.Str PySem.Builtin.Int PySem.Builtin.Float

def CPowW (i j : Int) : Prop := 0 ≤ j ∧ (Builtin.Int.intBits i : Int) * j ≤ 2 ^ 27
theorem op_powW {X : Cx} : OpR X (binaryOp .Pow) (rI CPowW fun i j => .int (i ^ j.toNat)) :=
  opI fun _ _ _ _ _ _ _ hc q => pow_int hc.1 hc.2 q

/-! ### the binary digits of a number as a text -/
def binL (n : Nat) : List Nat := (Nat.toDigits 2 n).map Char.toNat
def binText (n : Nat) : Str := ⟨(binL n).toArray⟩

theorem binL_ne (n : Nat) : binL n ≠ [] := by
  intro e
  have h := congrArg List.length e
  have h2 := tDigits_len_ge 2 n
  unfold binL at h
  rw [List.length_map] at h
  simp at h
theorem intField_plain {ds : List Nat} {g : Nat} (h : ds ≠ []) : intField' { align := 62, type := some 98 } false [] ds [] g = ⟨ds.toArray⟩ := by
  cases ds with
  | nil => exact absurd rfl h
  | cons d ds =>
    have e : ((-1 : Int) - (0 + 0 + 0) - ((d :: ds).length : Nat)).toNat = 0 := by
      rw [List.length_cons]
      omega
    unfold intField'
    simp
    omega

theorem gives_b (n : Nat) (t u : Tok) : Gives (Builtin.«int.__format__» ⟨[.int (n : Int) t, .str (Str.ofString "b") u], []⟩) (.str (binText n)) := by
  intro prog w A R s hq
  unfold Builtin.«int.__format__»
  have hne : ((Str.ofString "b").length == 0) = false := by decide +kernel
  have hasc : (((Str.ofString "b").cps.toList.drop 1).any (· ≥ 128) || ((Str.ofString "b").cps.getD 0 0 ≥ 128 && !([60, 62, 61, 94] : List Nat).contains ((Str.ofString "b").cps.getD 1 0))) = false := by decide +kernel
  simp only [selfAndOne, noKeywords, Int.intOfSelf, asInt?, asStr?, List.isEmpty_nil, if_true, pure_bind, bind_pure, bind_assoc, hne, hasc, Bool.false_eq_true, if_false,
    show (Value.str (Str.ofString "b") u == Value.none) = false from rfl]
  refine wpAny_bind (wpAny_typeNameOf (T := "str") (typeIs_str _ _ _) (by decide) fun _ => ?_)
  refine wpAny_bind (wpAny_typeNameOfCut_int ?_)
  have hp : ∃ f, parseFormatSpec (Str.ofString "b").cps.toList "int" 62 = .ok f ∧ f = { align := 62, type := some 98 } := ⟨_, rfl, by rfl⟩
  obtain ⟨f, hp, hf⟩ := hp
  rw [hp]
  dsimp only
  subst hf
  rw [if_pos (by decide)]
  show wpAny _ _ (retStr (intField' { align := 62, type := some 98 } (decide ((n : Int) < 0)) [] (binL n) [] 4)) _ _ _
  rw [show decide ((n : Int) < 0) = false from decide_eq_false (by omega), intField_plain (binL_ne n)]
  exact gives_retStr (binText n) prog w A R s hq

/-- {n:b} -/
def tFmtB (te : TE) : TE := fun σ H Q => te σ H fun x H1 => ∃ n : Nat, x = .int (n : Int) ∧ n < 2 ^ 2000 ∧ Q (.str (binText n)) H1
theorem binText_len {n k : Nat} (hk : 1 ≤ k) (h : n < 2 ^ k) : (binText n).length ≤ k := by
  have := toDigits_len_pow (b := 2) (by decide) hk h
  show (binL n).toArray.size ≤ k
  unfold binL
  rw [List.size_toArray, List.length_map]
  exact this
theorem pe_fmtB {X : Cx} {e : Expr} {te : TE} {p1 p2 pos : Pos} (he : PE X e te) :
    PE X (.FormattedValue e (-1) (some (.JoinedStr [.Constant (.str (Str.ofString "b")) 0 p1] p2)) pos) (tFmtB te) := by
  refine ⟨fun pins s σ H Q I h => ?_⟩
  refine wpAny_FormattedValue_spec (thn (he.run pins s σ H _ I h) fun v s1 hv => ?_)
  obtain ⟨x, H1, I1, r1, n, rfl, hn, q⟩ := hv
  obtain ⟨t, rfl⟩ := r1
  refine JoinedStr_one (wpAny_Constant_str ?_)
  refine ⟨_, _, rfl, ?_⟩
  exact wpAny_formatField_spec (by decide +kernel) (fun s' => typeIs_int s' _ _) F.slot_int_format F.entry_int_format F.args_int_format_2 (fun u => gives_b n t u)
    ⟨.str (binText n), H1, (I1.tok _).tok _, ⟨_, rfl⟩, q⟩ (by decide +kernel) (Nat.le_trans (binText_len (k := 2000) (by decide) hn) (by rw [sizeLine_eq]; decide))

/-! ### repr of data: wants that nothing is being shown around -/
theorem call_repr_data {X : Cx} {k : Nat} (hg : X.A.guards = some []) (hr : Room k X.A) :
    CallR X (.builtin "repr") (fun xs H Q => ∃ (p : Addr) (d : PyData), xs = [.ref p] ∧ Dp X.K H (.ref p) d ∧ d.showable = true ∧ d.hasDict = false ∧ d.depth ≤ 60 ∧ d.shown.length ≤ sizeLine ∧ Q (.str d.shown) H) := by
  intro pins s σ H xs us Q I r h
  obtain ⟨p, d, rfl, hd, hs, hn, hdp, hsz, q⟩ := h
  obtain ⟨u, rfl, hu⟩ := vals1 r
  obtain ⟨as, rd⟩ := Dp.reads I d _ u hd hu
  cases (show u = Value.ref p from hu)
  have hU := hr.units
  refine repr_of_reads' rd hs (fun z => by rw [hn] at z; cases z) hg (by omega) (fun b o e => e) (fun h' u tk hk => ?_) hsz
  exact ⟨.str d.shown, H, I.kept (t' := tk) hk, ⟨_, rfl⟩, q⟩

/-! ### f(k = v, ..), no argument by position -/
section
variable {X : Cx} {CX : CXT} {k : Nat} {f : Addr} {fd : FuncData} {ps ks : List Str} {sp : Sp} {E : XK} {x : Str} {p pos : Pos} {kws : List Keyword} {tk : TA} {g : List Value → List Value → List Value} {gV : List V → List V → List V}
theorem pe_callK0 (F : FnOk X.prog X.w X.K X.mg X.base CX k f fd ps sp) (hr : Room k X.A) (hg : Gl X x) (hm : X.mg x = some (.ref f)) (hk : PySem.W.keepIn X.K (.ref f) = true)
    (hb : KBinds X.K fd ps ks g gV) (hx : Passes CX X E) (hkw : PK X kws tk) (hall : (backToKw pos (keywordEach kws X.env)).all (·.1.isSome) = true := by rfl)
    (hks : (backToKw pos (keywordEach kws X.env)).filterMap (·.1) = ks := by rfl) (hdb : (x == ("__debug__" : Str)) = false := by decide)
    (hpl : (backToKw pos (keywordEach kws X.env)).any (·.1.isNone) = false := by rfl) :
    PE X (.Call (.Name x p) [] kws pos) (tCallK sp gV E tNil tk) := by
  refine ⟨fun pins s σ H Q I h => ?_⟩
  refine wpAny_Call_Name_kw (ld_glob I hg hm ?_ hdb)
  refine PySem.W.callWith_KW0 (h₀ := X.base) I.ok.mod.kin hk hall (thn (hkw.run pos pins s σ H _ I h) fun ws s2 ⟨zs, H2, I2, rz, q2⟩ => ⟨I2.kIn, ?_⟩) hpl
  rw [hks]
  exact run_fnk F hr hb hx I2 .nil rz q2
end

/-! ### a def of which it is known that nothing is being shown around -/
structure FnG (P : Program) (w : World) (K : PySem.W.Frag) (mg : Str → Option Value) (base : Heap) (k : Nat) (f : Addr) (fd : FuncData) (ps : List Str) (sp : Sp) : Prop where
  len : ∀ vs H Q E, sp vs H Q E → vs.length = ps.length
  run : ∀ (A : Around) (outer : List Env) (s : Shared) (H : Hp) (args : Args) (us : List Value) (vs : List V) (Q : VK) (E : XK), A.guards = some [] → Room k A → Env0 P w K mg base A outer s H →
    BindsTo s fd args (ps.zip us) → Vals vs us → sp vs H Q E → codeAny (model P w) A (.call (.ref f) args) (CR CX0 outer P w H s Q E) s
end G
set_option Elab.async false
set_option maxRecDepth 100000
set_option maxHeartbeats 4000000
namespace G
open PySem PySem.Spec PyProof.Rows L2
section
variable {P : Program} {w : World} {K : PySem.W.Frag} {mg : Str → Option Value} {base : Heap}
theorem FnG.mono {j k : Nat} {f : Addr} {fd : FuncData} {ps : List Str} {sp : Sp} (F : FnG P w K mg base j f fd ps sp) (h : j ≤ k) : FnG P w K mg base k f fd ps sp :=
  ⟨F.len, fun A outer s H args us vs Q E hg hr => F.run A outer s H args us vs Q E hg (hr.mono h)⟩
/-- a def of the text, by its body -/
theorem okG {x qual : Str} {st : Stmt} {f : Addr} {fd : FuncData} {N ps : List Str} {k : Nat} {sp : Sp} (F : Fun K x qual st f fd) (S : FnScope N ps (defScope st)) (len : ∀ vs H Q E, sp vs H Q E → vs.length = ps.length)
    (body : ∀ (cdv : Value) (A : Around) (outer : List Env) (s : Shared) (H : Hp) (vs : List V) (Q : VK) (E : XK), A.guards = some [] → Room k (A.deeper (envOfC qual (defScope st) s.heap.objs.size f cdv)) → sp vs H Q E →
      ∃ t, PSs (cxOf CX0 P w K mg base N qual (defScope st) f cdv A outer s H E).nox (defBody st) t ∧ t { nx := fun _ H' => Q .non H', rt := Q } (start N vs) H) :
    FnG P w K mg base (k + 1) f fd ps sp := by
  obtain ⟨oc, od, kV, doc, pm, an, cdv, ct, osl, efd, lk, hcd⟩ := F.ex
  subst efd
  refine ⟨len, fun A outer s H args us vs Q E hg hr e0 hb r hsp => ?_⟩
  refine Att.call_fn (e0.mod.kin.keeps fun b o z => (e0.bs b o z).1) (e0.mod.nolimit.keeps fun b o z => (e0.bs b o z).1) lk hcd hr.depth hb ?_ (fun s1 x => ?_) S.co S.gen S.kind
  · rw [List.all_eq_true]
    rintro ⟨n, v⟩ hy
    rcases S.par n (List.of_mem_zip hy).1 with q | q
    · show (_ == _ || _) = true
      rw [q]
      rfl
    · show (_ || _ == _) = true
      rw [q]
      rfl
  · obtain ⟨t, ht, hq⟩ := body cdv A outer s H vs Q E hg (hr.deeper _) hsp
    have I := inv_start (CX := CX0) (E := E) S hr.hd e0 (len _ _ _ _ hsp) r x
    refine wpAny_mono (ht.nox.run [] s1 (start N vs) H _ I hq) (fun fl s' hs => ?_) fun e s' hs => hs
    cases fl with
    | ret u =>
      obtain ⟨v, σ', H', J, rv, q⟩ := hs
      exact ⟨v, H', J.os, J.bare, J.base, J.hok, rv, q⟩
    | next =>
      obtain ⟨σ', H', J, q⟩ := hs
      exact ⟨V.non, H', J.os, J.bare, J.base, J.hok, rfl, q⟩
    | brk =>
      obtain ⟨_, _, _, q⟩ := hs
      exact False.elim q
    | cont =>
      obtain ⟨_, _, _, q⟩ := hs
      exact False.elim q
/-- a def that does not mind -/
theorem FnG.of {k : Nat} {f : Addr} {fd : FuncData} {ps : List Str} {sp : Sp} (F : FnOk P w K mg base CX0 k f fd ps sp) : FnG P w K mg base k f fd ps sp :=
  ⟨F.len, fun A outer s H args us vs Q E _ => F.run A outer s H args us vs Q E⟩
end
section
variable {X : Cx} {k : Nat} {f : Addr} {fd : FuncData} {ps : List Str} {sp : Sp} {dvs : List V} {ds : List Value} {x : Str} {p pos : Pos} {e : Expr} {es : List Expr} {t : TA}
theorem pe_callG (F : FnG X.prog X.w X.K X.mg X.base k f fd ps sp) (hgu : X.A.guards = some []) (hr : Room k X.A) (hg : Gl X x) (hm : X.mg x = some (.ref f)) (hk : PySem.W.keepIn X.K (.ref f) = true) (hb : Binds X.K fd ps ds) (hd : Vals dvs ds)
    (ha : PA X (e :: es) t) (hdb : (x == ("__debug__" : Str)) = false := by decide) (he : starEach (e :: es) X.env = (false, eval e X.env) :: starEach es X.env := by rfl)
    (hpl : (backTo pos (starEach es X.env)).any (·.1) = false := by rfl) : PE X (.Call (.Name x p) (e :: es) [] pos) (tCall sp dvs E0 t) := by
  refine ⟨fun pins s σ H Q I h => wpAny_Call_Name_kw (ld_glob I hg hm ?_ hdb)⟩
  refine PySem.W.callWith_K (h₀ := X.base) I.ok.mod.kin hk (thn (ha.run pos pins s σ H _ I h) fun us s1 ⟨vs, H1, I1, r, q⟩ => ⟨I1.kIn, ?_⟩) he hpl
  have r2 : Vals (vs ++ dvs) (us ++ ds) := r.append hd
  refine wpAny_call (codeAny_mono (F.run X.A X.stack s1 H1 ⟨us, []⟩ (us ++ ds) (vs ++ dvs) Q E0 hgu hr I1.env0 (hb s1 us I1.kIn (r2.length.symm.trans (F.len _ _ _ _ q))) r2 q) fun r s' hq => ?_)
  match r, hq with
  | .ok (.ret u), hq => exact I1.after hq
end
/-! ### the law's own call -/
/-- what is tracked ahead of the law: the script, where it is none of the module's own objects -/
def scr (K : PySem.W.Frag) (a : Addr) (vs : List Value) (ns : List Int) : Hp := fun b => if b = a ∧ K.lookup a = none then some (.frz { cls := .type "list", data := .seq vs.toArray } (.lst (ns.map V.int))) else none
theorem scr_or (K : PySem.W.Frag) (a : Addr) (vs : List Value) (ns : List Int) (b : Addr) :
    scr K a vs ns b = none ∨ (b = a ∧ K.lookup a = none ∧ scr K a vs ns b = some (.frz { cls := .type "list", data := .seq vs.toArray } (.lst (ns.map V.int)))) := by
  by_cases h : b = a ∧ K.lookup a = none
  · exact .inr ⟨h.1, h.2, if_pos h⟩
  · exact .inl (if_neg h)
section
variable {P : Program} {w : World} {K : PySem.W.Frag} {mg mb : Str → Option Value} {k : Nat} {fa a : Addr} {fd : FuncData} {x : Str} {sp : Sp} {s₁ : Shared} {vs : List Value} {ns : List Int}
theorem law_runs (KX : K.In s₁.heap) (hns : s₁.heap.Ns mainGlobals mg) (hb : s₁.heap.Ns builtinsNs mb) (hbb : ∀ x : Str, x ≠ "__name__" → mb x = bootBuiltins x) (hlim : s₁.heap.NoLimit) (hg : s₁.gens = #[])
    (ha : s₁.heap.get? a = some { cls := .type "list", data := .seq vs.toArray }) (hi : IntsAre vs ns) (hl : ns.length ≤ sizeLine) (hr : Room k callerA)
    (F : ∀ base : Heap, K.In base → base.Ns mainGlobals mg → FnG P w K mg base k fa fd [x] sp) (hbind : ∀ (s : Shared) (u : Value), BindsTo s fd ⟨[u], []⟩ [(x, u)])
    (hsp : ∀ H : Hp, SqL K H a (ns.map V.int) → sp [.ref a] H (fun v _ => v = .bl true) fun _ _ _ => False) :
    codeAny (model P w) callerA (.call (.ref fa) ⟨[.ref a], []⟩) (fun r s' => r = .ok (.ret (.bool true)) ∧ OldK s₁.heap s'.heap ∧ s'.os = s₁.os ∧ AllBare s'.gens) s₁ := by
  have tell := scr_or K a vs ns
  have rv := vals_ints hi
  have sees : SqL K (scr K a vs ns) a (ns.map V.int) := by
    cases hk : K.lookup a with
    | none => exact .inl (.inr ⟨_, if_pos ⟨rfl, hk⟩⟩)
    | some o =>
      have e := ha.symm.trans (KX a o hk)
      cases e
      exact .inr ⟨_, vs.toArray, _, hk, rfl, rfl, rfl, by rw [List.size_toArray, hi.length]; exact hl, by simpa using rv⟩
  have okH : HOk P w (scr K a vs ns) s₁.heap := fun b u z => by
    rcases tell b with q | ⟨rfl, _, q⟩
    · cases q.symm.trans z
    · cases q.symm.trans z
      exact ⟨ha, by rw [List.length_map]; exact hl, vs, _, rv, ha⟩
  have low : ∀ {b : Addr} {m : Str → Option Value}, s₁.heap.Ns b m → (hidT s₁.heap (scr K a vs ns)).Ns b m := by
    rintro b m ⟨o, es, ep, e, d, r⟩
    refine ⟨o, es, ep, hidT_get e ?_, d, r⟩
    rcases tell b with q | ⟨rfl, _, _⟩
    · exact q
    · cases ha.symm.trans e
      cases d
  have lowK : K.In (hidT s₁.heap (scr K a vs ns)) := fun b o e => hidT_get (KX b o e) (by
    rcases tell b with q | ⟨rfl, z, _⟩
    · exact q
    · cases z.symm.trans e)
  obtain ⟨mc, c1, c2⟩ := hlim
  have e0 : Env0 P w K mg (hidT s₁.heap (scr K a vs ns)) callerA [] s₁ (scr K a vs ns) :=
    { frames := rfl, mod := ⟨lowK, low hns, ⟨mb, low hb, hbb⟩, ⟨mc, low c1, c2⟩⟩, bs := fun b o e => of_hidT e, bsz := Nat.le_of_eq (hidT_size _ _), funs := trivial,
      frf := fun b z => (List.not_mem_nil (show b ∈ ([] : List Addr) from z)).elim, hok := okH, bare := .of_eq hg }
  refine codeAny_mono ((F _ lowK (low hns)).run callerA [] s₁ _ ⟨[.ref a], []⟩ [.ref a] [.ref a] _ _ rfl hr e0 (hbind s₁ (.ref a)) (.cons rfl .nil) (hsp _ sees)) fun r s' h => ?_
  match r, h with
  | .ok (.ret u), ⟨v, H', os, bare, un, hok', r', q⟩ =>
    subst q
    cases (show u = Value.bool true from r')
    refine ⟨rfl, OldK.of_keep fun b o e => ?_, os, bare⟩
    rcases tell b with z | ⟨rfl, _, z⟩
    · exact un.keep b o e z (fun z => List.not_mem_nil (show b ∈ ([] : List Addr) from z)) List.not_mem_nil
    · cases ha.symm.trans e
      exact (hok' b _ (un.frzs b _ _ z)).1
end
theorem walk_G {l : PySem.W.OpenLaw} {n k : Nat} {q : Program} {loose : List Str} {XP : (Str → Option Value) → Heap → Prop} {YP : World → Heap → Prop} {d : DefRec} {K : Params → PySem.W.Frag} {sp : PySem.W.Frag → Sp} {x : Str}
    (hn : l.most = some n) (hn2 : n ≤ sizeLine) (hdf : d.params.defaults = []) (hr : Room k callerA) (hY : ∀ (w : World) (h : Heap), YP w h → (K w.params).In h)
    (F : ∀ (w : World) (mg : Str → Option Value) (fa : Addr) (h : Heap), (K w.params).In h → h.Ns mainGlobals mg → mg d.name = some (.ref fa) →
      ∃ fd : FuncData, (∀ (s : Shared) (u : Value), BindsTo s fd ⟨[u], []⟩ [(x, u)]) ∧ ∀ base : Heap, (K w.params).In base → base.Ns mainGlobals mg → FnG l.prog w (K w.params) mg base k fa fd [x] (sp (K w.params)))
    (hsp : ∀ (K : PySem.W.Frag) (H : Hp) (a : Addr) (ns : List Int), ns.length ≤ n → SqL K H a (ns.map V.int) → sp K [.ref a] H (fun v _ => v = .bl true) fun _ _ _ => False) :
    PySem.W.WalkO q loose XP YP l.row.toRowW d [] (fun f vs => PySem.call f vs) := by
  refine Att.attach_call hn hdf fun w s₀ s₁ mg mb fa o pm cd doc a vs ns G Y ho hd hcd hmg hobj hints hlen hg => ?_
  obtain ⟨fd, hb, hF⟩ := F w mg fa _ (hY w _ Y) G.T.g hmg
  exact law_runs (hY w _ Y) G.T.g G.T.b G.T.builtins G.T.nolimit hg hobj hints (Nat.le_trans hlen hn2) hr hF hb fun H hS => hsp _ H a ns hlen hS
end G
set_option Elab.async false
set_option maxRecDepth 100000
set_option maxHeartbeats 4000000
/-! d.update(e), sorted(d) -/
namespace G
open PySem PySem.Spec PyProof.Rows L2
section
variable {X : Cx}
theorem mt_dupd : MtR X "dict.update" (fun x xs H Q => ∃ (a b : Addr) (kvs more : List (Key × V)), x = .ref a ∧ xs = [.ref b] ∧ H a = some (.dK kvs) ∧ H b = some (.dK more) ∧ a ≠ b ∧ kvs.length + more.length ≤ sizeLine ∧ Q .non (upd H a (.dK (mergeK kvs more)))) := by
  intro pins s σ H x xs v us Q I rx rxs h
  obtain ⟨a, b, kvs, more, rfl, rfl, ha, hb, hne, hsz, q⟩ := h
  cases rx
  obtain ⟨u, rfl, ru⟩ := vals1 rxs
  cases (show u = Value.ref b from ru)
  obtain ⟨z1, lo1, vs, rel1, dd1⟩ := dk_of I.hok ha
  obtain ⟨z2, lo2, ws, rel2, dd2⟩ := dk_of I.hok hb
  refine call_meetsIn PySem.F.slot_dict_update dd1.typeIs PySem.F.entry_dict_update (PySem.F.args_dict_update_2 _ _) (meets_dict_update (mixKind X.prog X.w) a b hne lo2)
    ⟨vs, ws, dd1, dd2, by rw [← rel1.length, ← rel2.length]; exact hsz, fun h' hd' _ hs => ?_⟩
  have he : ∃ q, h'.get? a = some q := let ⟨q, _, _, hq, _⟩ := hd'; ⟨q, hq⟩
  exact ⟨.non, _, d_write (t' := s.toks) I (by rw [ha]; exact True.intro) hs he (dk_new (Nat.le_trans (length_mergeK more kvs) hsz) lo1 (KV.merge rel2 rel1) hd'), rfl, q⟩
/-- sorted(d), a dict of ints of any length -/
theorem cr_sortedAny (hcalm : X.calm = true) : CallR X (.builtin "sorted") (fun xs H Q => ∃ (a : Addr) (kvs : List (Key × V)) (ks : List Int), xs = [.ref a] ∧ Rd H a (.dK kvs) ∧ kvs.map (·.1) = ks.map Sum.inl ∧
    ∀ (ys : List Int) (p : Addr), ys.Perm ks → ys.Pairwise (· ≤ ·) → H p = none → Q (.ref p) (upd H p (.lst (ys.map V.int)))) := by
  intro pins s σ H xs us Q I r ⟨a, kvs, ks, ex, hd, hks, q⟩
  subst ex
  obtain ⟨u, rfl, rx⟩ := vals1 r
  cases (show u = Value.ref a from rx)
  obtain ⟨z, lo, vs, rel, dd⟩ := dk_rd I.hok hd
  obtain ⟨ep, hat⟩ := dd.dictAt
  have hkeys : vs.map (·.1) = ks.map Sum.inl := rel.keys.symm.trans hks
  have hl : vs.length = ks.length := by simpa using congrArg List.length hkeys
  have h16 : vs.length ≤ sizeLine := rel.length ▸ z
  refine Calls.call_function_entry PyProof.Rows.kind_sorted PyProof.Rows.plain_sorted PyProof.Rows.entry_sorted (PyProof.Rows.args_sorted1 _) ?_
  refine wpAny_bind (m := checkCount "sorted" 1 1 _) (wpAny_pure (wpAny_bind (PySem.W.kdu_collect (A := X.A.in1) (PySem.W.kdl_dict (knd := mixKind X.prog X.w) (kvs := vs) (ep := ep) lo) (I.ok.hd hcalm) hat h16 fun h' tk acc hk hacc => ?_)))
  have hal : acc.toList.length = ks.length := by rw [Array.length_toList, hacc.1, hl]
  have hS : IntsAre acc.toList ks := ints_each hal fun j v e => by
    obtain ⟨k, x, e1, e2⟩ := hacc.2 j v ((Array.getElem?_toList ..).symm.trans e)
    have e3 : (ks.map (Sum.inl : Int → Key))[j]? = some k := by rw [← hkeys, List.getElem?_map, e1]; rfl
    rw [List.getElem?_map] at e3
    obtain ⟨y, e4, e5⟩ := Option.map_eq_some_iff.mp e3
    subst e5
    rcases keyIs_shape (show keyIs (Sum.inl y) v = true from e2) with ⟨i, t, ek, ev⟩ | ⟨z, t, ek, ev⟩
    · cases ek
      exact ⟨y, t, e4, ev⟩
    · cases ek
  have I1 : Inv X pins σ H { s with heap := h', toks := tk } := I.kept hk
  refine wpAny_bind (wpAny_newList ?_ (by rw [hal, ← hl]; exact h16))
  have hoL : (h'.push (seqObj "list" acc.toList.toArray 0)).get? h'.objs.size = some (seqObj "list" acc.toList.toArray 0) := Heap.get?_push_size _ rfl
  refine wpAny_bind (s := { s with heap := h'.push (seqObj "list" acc.toList.toArray 0), toks := tk }) (wpAny_holding (wpAny_call_entry PyProof.Rows.slot_list_sort ⟨_, hoL, rfl⟩ PyProof.Rows.entry_list_sort
    (SrtO.list_sort_ord (s := { s with heap := h'.push (seqObj "list" acc.toList.toArray 0), toks := tk }) SrtO.swo_int hoL (by rw [hal, ← hl]; exact h16) (fun h2 => SrtO.ints_sortable hS h2) fun out s1 s2 => ⟨_, rfl, ?_⟩) (PyProof.Rows.args_list_sort _)))
  obtain ⟨g1, g2, g3⟩ := SrtO.ints_out hS s1 s2
  obtain ⟨e', he'⟩ := PyProof.Rows.sortedHeap_at (vs := acc.toList) (out := out.toArray) hoL
  have hlen : ((out.map SrtO.iv).map V.int).length ≤ sizeLine := by
    rw [List.length_map, g2.length_eq, ← hl]
    exact h16
  refine wpAny_pure ⟨_, rfl, .ref h'.objs.size, upd H h'.objs.size (.lst ((out.map SrtO.iv).map V.int)), I1.laid (t' := tk) (fun b u e => ?_) (Nat.le_refl _)
    (show ObjOk X.prog X.w _ _ _ (.lst ((out.map SrtO.iv).map V.int)) from ⟨hlen, out, e', vals_of_ints g1, he'⟩), rfl, q _ _ g2 g3 (I1.hok.fresh (Nat.le_refl _))⟩
  have hb : b < h'.objs.size := Heap.lt_size e
  rw [PyProof.Rows.sortedHeap_old (Nat.ne_of_lt hb) (by rw [size_push']; exact Nat.lt_succ_of_lt hb)]
  exact Heap.get?_push_of_some _ e
end
end G
set_option Elab.async false
set_option maxRecDepth 100000
set_option maxHeartbeats 8000000
/-! set(a list of ints), and sorted of a set of ints of any length -/
namespace G
open PySem PySem.Spec PyProof.Rows L2
/-- the new set, empty -/
abbrev nob (w : World) : Obj := { cls := .type "set", dict := none, data := .set #[] 0 (.fresh 0 0 (!w.params.followText "set-order")) }
/-- what stands at the set's place when all is in -/
abbrev Filled (w : World) (s : Shared) (ns : List Int) (r : Value) (s2 : Shared) : Prop :=
  r = .none ∧ ∃ (h' : Heap) (tk c : Nat), s2 = { s with heap := h', toks := tk } ∧ SetR w h' s.heap.objs.size (fun j => decide (j ∈ ns)) c ∧ c ≤ ns.length ∧ ∀ b o, s.heap.get? b = some o → h'.get? b = some o
section
variable {P : Program} {w : World} {A : Around} {E : Value → Shared → Prop} {s : Shared}
/-- the loop over the list's iterator, from the empty set -/
theorem fill_lst {l : Addr} {items : Array Value} {ns : List Int} {R : Result → Shared → Prop} (hh : A.handled = none) (hl : s.heap.IsList l items) (hit : IntsAre items.toList ns) (hb : ns.length + 1 < scanBound)
    (hR : ∀ s2, Filled w s ns .none s2 → R (.ok (.ret .none)) s2) :
    codeAny (model P w) A (.builtin "set.update.loop" ⟨[.ref s.heap.objs.size, .ref (s.heap.push (nob w)).objs.size], []⟩) R
      { s with heap := (s.heap.push (nob w)).push { cls := .type "list_iterator", data := .fields #[.ref l, .int 0 0] } } := by
  have n1 : items.size = ns.length := by
    have q := IntsAre.length hit
    rwa [Array.length_toList] at q
  have lS : l < s.heap.objs.size := hl.elim fun o q => Heap.lt_size q.1
  have z1 : (s.heap.push (nob w)).objs.size = s.heap.objs.size + 1 := Heap.size_push ..
  have lI : l ≠ (s.heap.push (nob w)).objs.size := fun z => Nat.lt_irrefl _ (Nat.lt_of_lt_of_le lS (by rw [z, z1]; exact Nat.le_succ _))
  have out : s.heap.objs.size ∉ [(s.heap.push (nob w)).objs.size, l] := fun z => by
    rcases List.mem_cons.mp z with e | e
    · exact Nat.ne_of_lt (Nat.lt_succ_self _) (e.trans z1)
    · exact Nat.ne_of_gt lS (List.mem_singleton.mp e)
  have vals : ∀ (i : Nat) (v : Value), items[i]? = some v → ∃ k t, ns[i]? = some k ∧ v = .int k t := fun i v hv => by
    obtain ⟨t, e⟩ := PyProof.Rows.IntsAre.int_at hit i v (Array.getElem?_toList .. |>.trans hv)
    have hi : i < ns.length := n1 ▸ (Array.getElem?_eq_some_iff.mp hv).1
    exact ⟨ns[i], t, List.getElem?_eq_getElem hi, e.trans (by rw [List.getD_eq_getElem?_getD, List.getElem?_eq_getElem hi]; rfl)⟩
  have nb : ((s.heap.push (nob w)).push { cls := .type "list_iterator", data := .fields #[.ref l, .int 0 0] }).get? s.heap.objs.size = some (nob w) := Heap.get?_push_of_some _ (Heap.get?_push_size _ rfl)
  refine set_update_ints (P := P) ((Walks.list (show A.in1.handled = none from hh) _ l lI items).toS) s.heap.objs.size out ns n1 hb vals (items.size - 0) 0 _ rfl (Nat.zero_le _) ⟨⟨_, Heap.get?_push_size _ rfl, rfl, rfl⟩, ((hl.push _).push _)⟩ ⟨0, Nat.le_refl 0, setR_new_at nb⟩ fun s2 c hm hc hs => hR s2 ?_
  obtain ⟨h', g2, d', tk', os'⟩ := s2
  obtain rfl : g2 = s.gens := hm.gens
  obtain rfl : d' = s.drawn := hm.drawn
  obtain rfl : os' = s.os := hm.os
  refine ⟨rfl, h', tk', c, rfl, hs, n1 ▸ hc, fun b o e => hm.heap b o (fun z => ?_) (Heap.get?_push_of_some _ (Heap.get?_push_of_some _ e))⟩
  have b0 := Heap.lt_size e
  rcases List.mem_cons.mp z with q | q
  · exact Nat.ne_of_lt b0 q
  · exact Nat.ne_of_lt (Nat.lt_succ_of_lt b0) ((List.mem_singleton.mp q).trans z1)
/-- the call's second half: set.__init__ of the new object -/
theorem init_lst {l : Addr} {items : Array Value} {ns : List Int} (hh : A.handled = none) (hl : s.heap.IsList l items) (hit : IntsAre items.toList ns) (hb : ns.length + 1 < scanBound) :
    codeAny (model P w) A (.call (.builtin "set.__init__") ⟨[.ref s.heap.objs.size, .ref l], []⟩) (wants (Filled w s ns) E) { s with heap := s.heap.push (nob w) } := by
  have isN : (s.heap.push (nob w)).get? s.heap.objs.size = some (nob w) := Heap.get?_push_size _ rfl
  refine codeAny_call_builtin (R := wants (Filled w s ns) E) F.called_set.init.plain F.entry_set_init (check_set_init_1 (⟨_, isN, rfl⟩ : Shared.TypeIs { s with heap := s.heap.push (nob w) } (.ref s.heap.objs.size) "set") ?_)
  have hl0 := hl
  obtain ⟨⟨cl, di, da, sl⟩, ol, cl2, n0, da2⟩ := hl
  simp only at cl2 da2
  subst cl2 da2
  have ol' := Heap.get?_push_of_some (nob w) ol
  have s1 := F.sub_list_set; have s2 := F.sub_list_frozenset
  have ne : (Value.type "list" == Value.type "dict") = false := by decide
  have hl1 : (s.heap.push (nob w)).IsList l items := hl0.push _
  unfold Builtin.«set.__init__» noKeywords Builtin.Frozenset.updateFrom
  generalize hPI : pyIter = PI
  wp_walk
  subst hPI
  refine wpAny_pyIter_list hl1 (wpAny_bind (wpAny_runValue (fill_lst (by simp [hh]) hl0 hit hb fun s2 hF => ?_)))
  show wpAny _ _ _ _ _ _
  refine wpAny_pure (show wpAny _ _ (ret Value.none) _ _ _ from wpAny_pure hF)
/-- set(list of ints) -/
theorem call_set_lst {l : Addr} {items : Array Value} {ns : List Int} {Q : Value → Shared → Prop} (hh : A.handled = none) (hl : s.heap.IsList l items) (hit : IntsAre items.toList ns) (hb : ns.length + 1 < scanBound)
    (hQ : ∀ s2, Filled w s ns .none s2 → Q (.ref s.heap.objs.size) s2) : wpAny (model P w) A (call (.type "set") [.ref l]) Q E s := by
  obtain ⟨c0, t0, mro0⟩ := F.called_set.mro
  have made0 := F.called_set.made; have sub0 := F.called_set.sub
  refine wpAny_call (codeAny_of_tree (show wpAny _ _ (callAny (.type "set") _) _ _ _ from wpAny_pure ⟨Code.quiet_builtin _ (by decide +kernel), codeAny_builtin F.entry_type_call ?_⟩))
  rw [show _ = _ from Around.under_plain (weight_type_call_type "set" [.ref l] []) rfl]
  have t1 := F.called_set.notType; have t2 := F.called_set.canCreate; have t3 := F.typeCall_set_1 (.ref l)
  repeat (any_goals (first | assumption | wp_step))
  refine codeAny_mono (code_set_led1 (.ref l) (E := E) (Q₁ := fun obj s1 => obj = .ref s.heap.objs.size ∧ s1 = { s with heap := s.heap.push (nob w) }) ⟨rfl, rfl⟩) fun r s1 hr => ?_
  rcases r with er | fl
  · exact hr
  cases fl with
  | ret obj =>
    obtain ⟨rfl, rfl⟩ := hr
    have isN : (s.heap.push (nob w)).get? s.heap.objs.size = some (nob w) := Heap.get?_push_size _ rfl
    have hT : Shared.TypeIs { s with heap := s.heap.push (nob w) } (.ref s.heap.objs.size) "set" := ⟨_, isN, rfl⟩
    have i1 := F.called_set.init.lookup; have i2 := F.called_set.init.bind (.ref s.heap.objs.size)
    repeat (any_goals (first | assumption | wp_step))
    refine codeAny_mono (init_lst (P := P) (w := w) (E := E) (by simpa using hh) hl hit hb) fun r2 s2 hr2 => ?_
    rcases r2 with er | fl2
    · exact hr2
    cases fl2 with
    | ret r =>
      obtain ⟨rfl, hF⟩ := hr2
      repeat (any_goals (first | assumption | wp_step))
      exact hQ _ ⟨rfl, hF⟩
    | _ => exact hr2.elim
  | _ => exact hr.elim
end
end G
set_option Elab.async false
set_option maxRecDepth 100000
set_option maxHeartbeats 8000000
namespace G
open PySem PySem.Spec PyProof.Rows L2
section
variable {X : Cx}
def rSetL (K : PySem.W.Frag) (w : World) : List V → Hp → VK → Prop := fun xs H Q => ∃ (p : Addr) (ns : List Int), xs = [.ref p] ∧ SqL K H p (ns.map V.int) ∧ ns.length ≤ 4000 ∧
  ∀ (a : Addr) (n : Nat), H a = none → n ≤ ns.length → Q (.ref a) (upd H a (SetO w a (fun j => decide (j ∈ ns)) n))
theorem cr_setL (hc : X.calm = true) : CallR X (.type "set") (rSetL X.K X.w) := by
  intro pins s σ H xs us Q I r h
  obtain ⟨p, ns, rfl, hs, hl, q⟩ := h
  obtain ⟨its, rv, pl, hz⟩ := I.list hs
  rw [Vals.ref1 r]
  refine call_set_lst (I.ok.hd hc) pl.isList (by simpa using RZ.intsAre_vals rv) (by unfold scanBound; omega) fun s2 hF => ?_
  obtain ⟨_, h', tk, c, rfl, hS, hcl, hk⟩ := hF
  exact ⟨.ref _, upd H s.heap.objs.size (SetO X.w s.heap.objs.size (fun j => decide (j ∈ ns)) c), I.laid (t' := tk) hk (Nat.le_refl _) (setO_new hS), rfl, q _ c (I.hok.fresh (Nat.le_refl _)) hcl⟩
/-- sorted(set of ints), of any length -/
def rSortSet (w : World) : List V → Hp → VK → Prop := fun vs H Q => ∃ (a : Addr) (S : Int → Bool) (n : Nat), vs = [V.ref a] ∧ H a = some (SetO w a S n) ∧
  ∀ (ns : List Int) (p : Addr), ns.Pairwise (· < ·) → (∀ k : Int, k ∈ ns ↔ S k = true) → H p = none → Q (.ref p) (upd H p (.lst (ns.map V.int)))
theorem cr_sortSet (hc : X.calm = true) : CallR X (.builtin "sorted") (rSortSet X.w) := by
  intro pins s σ H vs us Q I r h
  obtain ⟨a, S, n, rfl, ha, q⟩ := h
  obtain ⟨o, es, ep, t, ho, hex, hd, gd, nd, mem, hb, hf, hn, ris, led⟩ := setO_get I ha
  rw [Vals.ref1 r]
  refine Calls.call_function_entry PyProof.Rows.kind_sorted PyProof.Rows.plain_sorted PyProof.Rows.entry_sorted (PyProof.Rows.args_sorted1 _) ?_
  refine wpAny_bind (m := checkCount "sorted" 1 1 _) (wpAny_pure (wpAny_bind (collect_set (A := X.A.in1) (I.ok.hd hc) ⟨o, ho, hex.1, hd⟩ hf hb ris led fun s1 ws k1 hz e1 e2 pm => ?_)))
  have hw : ws.length = es.size := by rw [pm.length_eq, List.length_map, Array.length_toList]
  have hws : ws.length ≤ sizeLine := by
    rw [hw, sizeLine_eq]
    unfold scanBound at hb
    omega
  have hI : IntsAre ws (ws.map Builtin.Re.reRawOf) := ints_of ws fun v hv => by
    obtain ⟨e, he, rfl⟩ := List.mem_map.mp (pm.mem_iff.mp hv)
    exact (gd e he).elim fun k z => z.elim fun tk y => ⟨k, tk, y.1⟩
  have pk := pm.map Builtin.Re.reRawOf
  rw [List.map_map] at pk
  have pk : (ws.map Builtin.Re.reRawOf).Perm (es.toList.map keyOf) := pk
  have hoL : (s1.heap.push (seqObj "list" ws.toArray 0)).get? s1.heap.objs.size = some (seqObj "list" ws.toArray 0) := Heap.get?_push_size _ rfl
  refine wpAny_bind (wpAny_newList ?_ hws)
  refine wpAny_bind (s := { s1 with heap := s1.heap.push (seqObj "list" ws.toArray 0) }) (wpAny_holding (wpAny_call_entry PyProof.Rows.slot_list_sort ⟨_, hoL, rfl⟩ PyProof.Rows.entry_list_sort
    (SrtO.list_sort_ord (s := { s1 with heap := s1.heap.push (seqObj "list" ws.toArray 0) }) SrtO.swo_int hoL hws (fun h2 => SrtO.ints_sortable hI h2) fun out a1 a2 => ⟨_, rfl, ?_⟩) (PyProof.Rows.args_list_sort _)))
  obtain ⟨b1, b2, b3⟩ := SrtO.ints_out hI a1 a2
  obtain ⟨e', he'⟩ := PyProof.Rows.sortedHeap_at (vs := ws) (out := out.toArray) hoL
  have pn : (out.map SrtO.iv).Perm (es.toList.map keyOf) := b2.trans pk
  have hlen : ((out.map SrtO.iv).map V.int).length ≤ sizeLine := by
    rw [List.length_map, b2.length_eq, List.length_map]
    exact hws
  have kp : ∀ b u, s.heap.get? b = some u → (PyProof.Rows.sortedHeap (s1.heap.push (seqObj "list" ws.toArray 0)) s1.heap.objs.size ws out.toArray).get? b = some u := fun b u e => by
    have hb := Heap.lt_size (k1 b u e)
    rw [PyProof.Rows.sortedHeap_old (Nat.ne_of_lt hb) (by rw [size_push']; exact Nat.lt_succ_of_lt hb)]
    exact Heap.get?_push_of_some _ (k1 b u e)
  have hn : H s1.heap.objs.size = none := I.hok.fresh hz
  have J : Inv X pins σ (upd H s1.heap.objs.size (.lst ((out.map SrtO.iv).map V.int))) { s with heap := PyProof.Rows.sortedHeap (s1.heap.push (seqObj "list" ws.toArray 0)) s1.heap.objs.size ws out.toArray, gens := s1.gens, drawn := s1.drawn, toks := s1.toks } :=
    I.call (ch := []) (Un.laid kp hz hn) (I.hok.laid kp hz ⟨hlen, out, e', vals_of_ints b1, he'⟩) (by rw [e1]; exact I.bare) (fun _ z => nomatch z)
  refine wpAny_pure ⟨_, rfl, .ref s1.heap.objs.size, _, ?_, rfl, q _ _ (lt_of_le_nodup _ b3 (pn.nodup_iff.mpr nd)) (fun k => by rw [pn.mem_iff, ← mem k]) hn⟩
  cases s1
  cases s
  cases e2
  exact J
end
end G
set_option Elab.async false
set_option maxRecDepth 100000
set_option maxHeartbeats 4000000
/-! {elt for .. in .. if .. for ..}: a set of ints, any number of clauses -/
namespace G
open PySem PySem.Spec PyProof.Rows L2
/-- nothing is raised -/
abbrev NE : Value → Shared → Prop := fun _ _ => False
/-- the set comprehension -/
abbrev scE (elt : Expr) (gens : List Comprehension) (scope : Scope) (pos : Pos) : Expr := .SetComp elt gens scope pos
abbrev tests (ifs : List Expr) (env : Env) : Sem Bool := forIn ifs true fun c r => if r = true then do { let ok ← isTrue c env (eval c env); pure (ForInStep.yield ok) } else pure (ForInStep.yield r)
section
variable {prog : Program} {w : World} {A : Around} {R : Result → Shared → Prop} {s : Shared} {elt tg iter tg1 iter1 : Expr} {ifs ifs1 : List Expr} {gens : List Comprehension} {scope : Scope} {pos : Pos} {k : Nat} {it acc : Value} {env : Env}
theorem turn_last (h0 : gens[k]? = some ⟨tg, iter, ifs, 0⟩) (h1 : gens[k + 1]? = none) : compTurn (scE elt gens scope pos) k it acc env = (do
      standAt iter.pos
      match ← pyNext it with
      | none => pure (.done .next)
      | some v =>
        letOwnedTupleGo tg it v
        assign tg env v
        let mut ok := true
        for c in ifs do if ok then ok ← isTrue c env (eval c env)
        if ok then (do let v ← eval elt env; standAt elt.pos; let _ ← call (.builtin "set.add") [acc, v])
        again (.compLoop (scE elt gens scope pos) k it acc env)) := by
  unfold compTurn scE
  simp only [h0, h1]
  rfl
theorem turn_more (h0 : gens[k]? = some ⟨tg, iter, ifs, 0⟩) (h1 : gens[k + 1]? = some ⟨tg1, iter1, ifs1, 0⟩) : compTurn (scE elt gens scope pos) k it acc env = (do
      standAt iter.pos
      match ← pyNext it with
      | none => pure (.done .next)
      | some v =>
        letOwnedTupleGo tg it v
        assign tg env v
        let mut ok := true
        for c in ifs do if ok then ok ← isTrue c env (eval c env)
        if ok then
          let x ← eval iter1 env
          standAt iter1.pos
          let x ← foldedSetIterable iter1 env x
          let _ ← runOwn (.compStart (scE elt gens scope pos) (k + 1) (← holding [x] (pyIter x)) acc env) env
        again (.compLoop (scE elt gens scope pos) k it acc env)) := by
  unfold compTurn scE
  simp only [h0, h1]
  rfl
/-- the rest of a turn, behind the tests: the next clause, or the element -/
def Rest (prog : Program) (w : World) (A : Around) (elt : Expr) (gens : List Comprehension) (scope : Scope) (pos : Pos) (k : Nat) (acc : Value) (env : Env) (Post : Shared → Prop) (s : Shared) : Prop :=
  match gens[k + 1]? with
  | none => wpAny (model prog w) A (eval elt env) (fun x s1 => wpAny (model prog w) A (call (.builtin "set.add") [acc, x]) (fun _ s2 => Post s2) NE s1) NE s
  | some g1 => g1.is_async = 0 ∧ (∀ x, foldedSetIterable g1.iter env x = pure x) ∧ wpAny (model prog w) A (eval g1.iter env) (fun x s1 => wpAny (model prog w) A (pyIter x) (fun it1 s2 =>
      codeAny (model prog w) A (.compStart (scE elt gens scope pos) (k + 1) it1 acc env) (fun r s3 => match r with
        | .ok _ => Post s3
        | .error _ => False) s2) NE s1) NE s
/-- a turn of clause k -/
def TurnS (prog : Program) (w : World) (A : Around) (tg : Expr) (ifs : List Expr) (env : Env) (it : Value) (stop skip go : Shared → Prop) (s : Shared) : Prop :=
  wpAny (model prog w) A (pyNext it) (fun r s1 => match r with
    | none => stop s1
    | some v => wpAny (model prog w) A (letOwnedTupleGo tg it v) (fun _ s2 => wpAny (model prog w) A (assign tg env v) (fun _ s3 =>
        wpAny (model prog w) A (tests ifs env) (fun ok s4 => if ok = true then go s4 else skip s4) NE s3) NE s2) NE s1) NE s
theorem ne_mono {α : Type} {t : Sem α} {Q Q' : α → Shared → Prop} {M : Model} {E : Value → Shared → Prop} (h : wpAny M A t Q NE s) (hQ : ∀ a s, Q a s → Q' a s) : wpAny M A t Q' E s := wpAny_mono h hQ fun _ _ z => False.elim z
theorem loopS (h0 : gens[k]? = some ⟨tg, iter, ifs, 0⟩) (hz : ∀ g, gens[k + 1]? = some g → g.is_async = 0) (Z : Nat → Shared → Prop)
    (turn : ∀ n s, Z n s → TurnS prog w A tg ifs env it (R (.ok .next)) (fun s' => ∃ m, m < n ∧ Z m s') (Rest prog w A elt gens scope pos k acc env (fun s' => ∃ m, m < n ∧ Z m s')) s)
    (n : Nat) (h : Z n s) : codeAny (model prog w) A (.compLoop (scE elt gens scope pos) k it acc env) R s := by
  refine codeAny_loop rfl Z (fun n s hZ => ?_) n h
  have hT := turn n s hZ
  unfold TurnS at hT
  show wpAny _ A ((compTurn (scE elt gens scope pos) k it acc env).onRaise (fun x => do noteFrame x env; theTreesLotGoes x)) _ _ s
  refine wpAny_noted ?_
  cases h1 : gens[k + 1]? with
  | none =>
    rw [turn_last h0 h1]
    refine wpAny_bind (wpAny_standAt (wpAny_bind (ne_mono hT fun r s₁ h₁ => ?_)))
    cases r with
    | none => exact wpAny_pure h₁
    | some v =>
      refine wpAny_bind (ne_mono h₁ fun _ s₁' h₁' => ?_)
      refine wpAny_bind (ne_mono h₁' fun _ s₂ h₂ => wpAny_bind (ne_mono h₂ fun ok s₃ h₃ => ?_))
      cases ok with
      | false => exact wpAny_pure ⟨rfl, h₃⟩
      | true =>
        have h₃ : Rest prog w A elt gens scope pos k acc env _ s₃ := h₃
        unfold Rest at h₃
        rw [h1] at h₃
        exact wpAny_bind (wpAny_bind (ne_mono h₃ fun x s₄ h₄ => wpAny_bind (wpAny_standAt (wpAny_bind (ne_mono h₄ fun _ s₅ h₅ => wpAny_pure (wpAny_pure ⟨rfl, h₅⟩))))))
  | some g1 =>
    obtain ⟨tg1, iter1, ifs1, a1⟩ := g1
    have ha : a1 = 0 := hz _ h1
    · subst ha
      rw [turn_more h0 h1]
      refine wpAny_bind (wpAny_standAt (wpAny_bind (ne_mono hT fun r s₁ h₁ => ?_)))
      cases r with
      | none => exact wpAny_pure h₁
      | some v =>
        refine wpAny_bind (ne_mono h₁ fun _ s₁' h₁' => ?_)
        refine wpAny_bind (ne_mono h₁' fun _ s₂ h₂ => wpAny_bind (ne_mono h₂ fun ok s₃ h₃ => ?_))
        cases ok with
        | false => exact wpAny_pure ⟨rfl, h₃⟩
        | true =>
          have h₃ : Rest prog w A elt gens scope pos k acc env _ s₃ := h₃
          unfold Rest at h₃
          rw [h1] at h₃
          obtain ⟨_, hs, h₃⟩ := h₃
          refine wpAny_bind (ne_mono h₃ fun x s₄ h₄ => ?_)
          refine wpAny_bind (wpAny_standAt (wpAny_bind (wpAny_of_eq (hs x) (wpAny_bind (wpAny_holding (ne_mono h₄ fun it1 s₅ h₅ => ?_))))))
          refine wpAny_bind (wpAny_runOwn ?_)
          rw [Around.mark_none]
          refine codeAny_mono h₅ fun r s' hr => ?_
          cases r with
          | ok f =>
            first
              | exact wpAny_pure ⟨rfl, hr⟩
              | exact wpAny_bind (wpAny_pure (wpAny_pure ⟨rfl, hr⟩))
          | error e => exact hr.elim
/-- a clause's start -/
theorem startS (h0 : gens[k]? = some ⟨tg, iter, ifs, 0⟩) (hl : codeAny (model prog w) A (.compLoop (scE elt gens scope pos) k it acc env) R s)
    (h : wpAny (model prog w) A (pyIter it) (fun it' s' => codeAny (model prog w) A (.compLoop (scE elt gens scope pos) k it' acc env) R s') NE s) :
    codeAny (model prog w) A (.compStart (scE elt gens scope pos) k it acc env) R s := by
  refine codeAny_of_tree ?_
  show wpAny _ _ ((compStart (scE elt gens scope pos) k it acc env).onRaise (fun x => do noteFrame x env; standAt theWindowsPlace)) _ _ s
  refine wpAny_notedAt ?_
  have hk : (clausesOf (scE elt gens scope pos))[k]? = some ⟨tg, iter, ifs, 0⟩ := h0
  unfold compStart
  simp only [hk, Option.elim]
  show wpAny _ _ (ask >>= _) _ _ s
  refine wpAny_bind (wpAny_askSetting (wpAny_ite ?_))
  split
  · first
      | exact wpAny_bind (wpAny_pure (wpAny_pure (And.intro rfl hl)))
      | exact wpAny_pure (And.intro rfl hl)
  · first
      | exact wpAny_bind (wpAny_rule (wpAny_bind (wpAny_standAt (wpAny_bind (ne_mono h fun it' s' h' => wpAny_pure (And.intro rfl h'))))))
      | (refine wpAny_bind (wpAny_rule ?_); show wpAny _ _ (standAt iter.pos >>= _) _ _ s; exact wpAny_bind (wpAny_standAt (wpAny_bind (ne_mono h fun it' s' h' => wpAny_pure (And.intro rfl h')))))
end
/-- what a further clause does: source, target, tests, and the slots that are its own or of those behind it -/
structure Cl where
  wi : TI
  g : TG
  tt : TT
  vs : List Nat
/-- the element goes into the set at D, then Nx -/
def tPut (w : World) (D : Addr) (te : TE) (σ : L2.St) (H : Hp) (Nx : Hp → Prop) : Prop := te σ H fun y H' => ∃ (c : Int) (S : Int → Bool) (n : Nat), y = .int c ∧ H' D = some (SetO w D S n) ∧ n + 1 < scanBound ∧
  Nx (upd H' D (SetO w D (fun j => S j || decide (j = c)) (if S c = true then n else n + 1)))
def tDeep (w : World) (D : Addr) (te : TE) : List Cl → L2.St → Hp → (Hp → Prop) → Prop
  | [], σ, H, Nx => tPut w D te σ H Nx
  | c :: L, σ, H, Nx => c.wi σ H fun J H1 => ∃ W : Nat → Nat → Hp → Prop, (∃ m, W 0 m H1) ∧ ∀ i m H, W i m H → (J.stop i H ∧ Nx H) ∨ (J.go i H ∧ ∃ N1 : Hp → Prop, (∀ H', N1 H' → ∃ m', m' < m ∧ W (i + 1) m' H') ∧
      ∀ x H', J.yld i H x H' → c.g x (wipe σ c.vs) H' fun σ2 H2 => wipe σ2 c.vs = wipe σ c.vs ∧ c.tt σ2 H2 fun b H3 => if b = true then tDeep w D te L σ2 H3 N1 else N1 H3)
def headVs : List Cl → List Nat
  | [] => []
  | c :: _ => c.vs
/-- the further clauses, as they are written -/
inductive Cls (Y : Cx) : List Cl → List Comprehension → Prop
  | nil : Cls Y [] []
  | cons {c : Cl} {L : List Cl} {tg iter : Expr} {ifs : List Expr} {gs : List Comprehension} (hi : PI Y tg iter c.wi) (hg : PG Y tg c.g) (ht : PTs Y ifs c.tt) (hs : ∀ env x, foldedSetIterable iter env x = pure x) (hv : ∀ i ∈ headVs L, i ∈ c.vs) (r : Cls Y L gs) : Cls Y (c :: L) (⟨tg, iter, ifs, 0⟩ :: gs)
theorem Cls.async {Y : Cx} : ∀ {L : List Cl} {gs : List Comprehension}, Cls Y L gs → ∀ {gens : List Comprehension} {k : Nat}, gens.drop k = gs → ∀ g, gens[k]? = some g → g.is_async = 0
  | _, _, .nil, gens, k, hd, g, e => by
    rw [← List.head?_drop, hd] at e
    cases e
  | _, _, .cons _ _ _ _ _ _, gens, k, hd, g, e => by
    rw [← List.head?_drop, hd] at e
    cases e
    rfl
section
variable {X : Cx}
/-- set.add of an int -/
theorem addI_ok {pins : List (Addr × Obj)} {σ : L2.St} {H : Hp} {s : Shared} {E : Value → Shared → Prop} {D : Addr} {S : Int → Bool} {n : Nat} {y : Int} {u : Value} {Q : Value → Shared → Prop} (I : Inv X pins σ H s) (r : RelV (.int y) u) (hD : H D = some (SetO X.w D S n)) (room : n + 1 < scanBound)
    (h : ∀ s', Inv X pins σ (upd H D (SetO X.w D (fun j => S j || decide (j = y)) (if S y = true then n else n + 1))) s' → Q .none s') : wpAny (model X.prog X.w) X.A (call (.builtin "set.add") [.ref D, u]) Q E s := by
  obtain ⟨tk, rfl⟩ : ∃ tk, u = .int y tk := r
  have R := setO_get I hD
  refine setR_add R room fun h' sb new => ?_
  have he : ∃ u, h'.get? D = some u := by
    have ⟨o, _, _, _, ho, _⟩ := new
    exact ⟨o, ho⟩
  exact h _ (I.write (e := D) (t' := s.toks + 1) (by rw [hD]; trivial) (.inl rfl) (fun b u hb hu => (sb.2 b hb).trans hu) he (setO_new new))
/-- what stands behind clause k's tests, run -/
theorem rest_run {s0 : Shared} {H0 : Hp} {scope : Scope} {ce : Env} {fp : List Addr} {elt : Expr} {gens : List Comprehension} {pos : Pos} {D : Addr} {te : TE} (hc : X.calm = true) (pe : PE (X.blk s0 H0 scope ce fp) elt te) :
    ∀ (L : List Cl) (gs : List Comprehension) (k : Nat), gens.drop (k + 1) = gs → Cls (X.blk s0 H0 scope ce fp) L gs → ∀ (P : List (Addr × Obj)) (σ : L2.St) (H : Hp) (s : Shared) (Nx : Hp → Prop) (Post : Shared → Prop),
      Inv (X.blk s0 H0 scope ce fp) P σ H s → tDeep X.w D te L σ H Nx →
      (∀ σ' H' s', Inv (X.blk s0 H0 scope ce fp) P σ' H' s' → σ'.length = σ.length → (∀ (j : Nat) v, (wipe σ (headVs L))[j]? = some (some v) → σ'[j]? = some (some v)) → Nx H' → Post s') →
      Rest X.prog X.w X.A elt gens scope pos k (.ref D) ce Post s
  | [], gs, k, hd, hC, P, σ, H, s, Nx, Post, I, t, hP => by
    cases hC
    have h1 : gens[k + 1]? = none := by
      rw [← List.head?_drop, hd]
      rfl
    unfold Rest
    rw [h1]
    refine thnF (pe.run P s σ H _ I t) fun z s1 ⟨yv, H1, I1, r1, c, S, n, ey, hD, hz, nx⟩ => ?_
    subst ey
    exact addI_ok (X := X.blk s0 H0 scope ce fp) I1 r1 hD hz fun s2 I2 => hP σ _ s2 I2 rfl (fun j v e => e) nx
  | c :: L, gs, k, hd, hC, P, σ, H, s, Nx, Post, I, t, hP => by
    cases hC with
    | @cons _ _ tg iter ifs gs' hi hg ht hs hv r =>
    have h1 : gens[k + 1]? = some ⟨tg, iter, ifs, 0⟩ := by
      rw [← List.head?_drop, hd]
      rfl
    have hd' : gens.drop (k + 1 + 1) = gs' := by
      rw [← List.tail_drop, hd]
      rfl
    unfold Rest
    rw [h1]
    refine ⟨rfl, hs ce, ?_⟩
    refine thnF (hi.run P s σ H _ I t) fun xv s1 hx => thnF hx fun itv s2 h2 => ?_
    obtain ⟨it1, fp1, tn1, J1, H2, e1, I2, T1, st2, f2, W1, ⟨m1, w1⟩, turn1⟩ := h2
    subst e1
    have stat1 : ∀ {H' : Hp}, (∀ b ∈ fp1, H' b = none) → ∀ b ∈ fp1, FpOk (X.blk s0 H0 scope ce fp) P H' b := fun hn b hb => ⟨hn b hb, (f2 b hb).2⟩
    have loop1 : codeAny (model X.prog X.w) X.A (.compLoop (scE elt gens scope pos) (k + 1) (.ref it1) (.ref D) ce) (fun r s3 => match r with
        | .ok _ => Post s3
        | .error _ => False) s2 := by
      refine loopS h1 (Cls.async r hd') (fun m s' => ∃ j H', Inv (X.blk s0 H0 scope ce fp) P (wipe σ c.vs) H' s' ∧ tn1 j s'.heap ∧ (∀ b ∈ fp1, H' b = none) ∧ W1 j m H') ?_ m1 ⟨0, H2, I2.weak (wipe_length _ _) (fun j v e => (wipe_some e).1), st2, fun b hb => (f2 b hb).1, w1⟩
      rintro m s3 ⟨j, H3, I3, st3, n3, w3⟩
      unfold TurnS
      rcases turn1 j m H3 w3 with ⟨stop1, nx1⟩ | ⟨go1, N1, hN1, step1⟩
      · refine thnF (T1.done (X.blk s0 H0 scope ce fp) rfl rfl rfl hc j _ s3 (wipe σ c.vs) H3 (fun _ _ => False) I3 (stat1 n3) st3 stop1) fun r s4 ⟨hr, I4⟩ => ?_
        subst hr
        exact hP _ _ s4 I4 (wipe_length _ _) (fun j v e => e) nx1
      · refine thnF (T1.item (X.blk s0 H0 scope ce fp) rfl rfl rfl hc j _ s3 (wipe σ c.vs) H3 (fun _ _ => False) I3 (stat1 n3) st3 go1) fun r s4 ⟨u1, hr, h4⟩ => ?_
        subst hr
        refine thnF h4 fun _ s5 ⟨x1, H5, I5, r5, y5, st5, n5⟩ => ?_
        have I5' := I5.pinned (stat1 n5) (T1.obj _ _ st5)
        refine thnF (hg.run _ s5 (wipe σ c.vs) H5 x1 u1 _ I5' r5 (step1 x1 H5 y5)) fun _ s6 ⟨σ6, H6, I6, hw6, q6⟩ => ?_
        refine thnF (ht.run _ s6 σ6 H6 _ I6 q6) fun b1 s7 ⟨H7, I7, q7⟩ => ?_
        have fin : ∀ {σ' : L2.St} {s' : Shared} {H' : Hp}, Inv (X.blk s0 H0 scope ce fp) (P ++ pinsAt fp1 s5.heap) σ' H' s' → σ'.length = σ6.length → (∀ (j : Nat) v, (wipe σ6 (headVs L))[j]? = some (some v) → σ'[j]? = some (some v)) → N1 H' →
            ∃ m', m' < m ∧ ∃ j H', Inv (X.blk s0 H0 scope ce fp) P (wipe σ c.vs) H' s' ∧ tn1 j s'.heap ∧ (∀ b ∈ fp1, H' b = none) ∧ W1 j m' H' := fun {σ' s' H'} I' hl hk nx => by
          obtain ⟨m', hm, w'⟩ := hN1 H' nx
          have pin' : ∀ b ∈ fp1, ∀ o, s5.heap.get? b = some o → s'.heap.get? b = some o ∧ H' b = none := fun b hb o e =>
            have z := I'.pin (b, o) (List.mem_append_right _ (List.mem_append_right _ (mem_pinsAt hb e)))
            ⟨z.1, z.2.1⟩
          refine ⟨m', hm, j + 1, H', I'.unpinned.weak (by rw [hl, ← hw6, wipe_length]) (fun i v e => ?_), T1.keep _ _ _ st5 fun b hb o e => (pin' b hb o e).1, fun b hb => ?_, w'⟩
          · rw [← hw6] at e
            obtain ⟨e1, e2⟩ := wipe_some e
            exact hk i v (by rw [wipe_out fun z => e2 (hv i z)]; exact e1)
          · obtain ⟨o, e, _⟩ := T1.obj _ _ st5 b hb
            exact (pin' b hb o e).2
        cases b1 with
        | false => exact fin I7 rfl (fun i v e => (wipe_some e).1) q7
        | true => exact rest_run hc pe L gs' (k + 1) hd' r _ σ6 H7 s7 N1 _ I7 q7 fun σ' H' s' I' hl hk nx => fin I' hl hk nx
    exact startS h1 loop1 (T1.self X.A 0 _ _ _ st2 loop1)
/-- {elt for .. in .. if .. and further clauses}: D the new set -/
def tScN (w : World) (wi : TI) (g : TG) (tt : TT) (te : TE) (L : List Cl) (vs : List Nat) : TE := fun σ H Q => wi σ H fun J H1 => ∀ D, H1 D = none → ∃ W : Nat → Nat → Hp → Prop, (∃ m, W 0 m (upd H1 D (SetO w D (fun _ => false) 0))) ∧ ∀ i m H, W i m H →
  (J.stop i H ∧ Q (.ref D) H) ∨ (J.go i H ∧ ∃ Nx : Hp → Prop, (∀ H', Nx H' → ∃ m', m' < m ∧ W (i + 1) m' H') ∧ ∀ x H', J.yld i H x H' → g x (wipe σ vs) H' fun σ2 H2 => wipe σ2 vs = wipe σ vs ∧ tt σ2 H2 fun b H3 => if b = true then tDeep w D te L σ2 H3 Nx else Nx H3)
theorem scN_core {pins : List (Addr × Obj)} {s : Shared} {σ : L2.St} {H : Hp} {Q : VK} {elt tg iter : Expr} {ifs : List Expr} {gs : List Comprehension} {scope : Scope} {own : List (PySem.Str × Nat)} {pos pos' : Pos} {wi : TI} {g : TG} {tt : TT} {te : TE} {L : List Cl} {Qf : Value → Shared → Prop}
    (hc : X.calm = true) (hN : X.N.Nodup) (I : Inv X pins σ H s) (hi : PI X tg iter wi) (ok : BlkOk X.N X.env.scope scope own) (hv : ∀ i ∈ headVs L, i ∈ own.map (·.2))
    (hg : ∀ (s : Shared) (H : Hp) (C : Addr) (cl : List (PySem.Str × Addr)) (fp : List Addr), PG (X.blk s H scope (compEnvC scope cl C X.env) fp) tg g) (ht : ∀ (s : Shared) (H : Hp) (C : Addr) (cl : List (PySem.Str × Addr)) (fp : List Addr), PTs (X.blk s H scope (compEnvC scope cl C X.env) fp) ifs tt)
    (hC : ∀ (s : Shared) (H : Hp) (C : Addr) (cl : List (PySem.Str × Addr)) (fp : List Addr), Cls (X.blk s H scope (compEnvC scope cl C X.env) fp) L gs)
    (he : ∀ (s : Shared) (H : Hp) (C : Addr) (cl : List (PySem.Str × Addr)) (fp : List Addr), PE (X.blk s H scope (compEnvC scope cl C X.env) fp) elt te) (hs : ∀ x, foldedSetIterable iter X.env x = pure x)
    (h : tScN X.w wi g tt te L (own.map (·.2)) σ H Q)
    (hRR : ∀ D C s' m H', Inv X pins σ H' s' → Q (.ref D) H' → s'.heap.Ns C m → FpOk X pins H' C → compPost (model X.prog X.w) X.A X.xe none Qf (.ref D) C (.ok .next) s') :
    wpAny (model X.prog X.w) X.A (comprehension (scE elt (⟨tg, iter, ifs, 0⟩ :: gs) scope pos) scope X.env pos' (newSet (.type "set")) false (eval iter X.env) none) Qf X.xe s := by
  have hF : ∀ y ∈ scope.names, y.2 = .free → ∃ c, X.env.cells.lookup y.1 = some c := fun y hy e => (ok.free y hy e).elim (fun z => I.ok.has _ (.inl z)) (fun z => I.ok.has _ (.inr z))
  refine wpAny_comprehension_free (use := none) rfl hs (closure_ok hF) ok.kind (fun y hy e => by rw [ok.uniq y hy, e]) (thn (hi.run pins s σ H _ I h) fun xv s1 hx => thn hx fun itv s2 h2 => ?_)
  obtain ⟨it, fp, tn, J, H2, e, I2, T, st2, f2, q⟩ := h2
  subst e
  refine PpSet.newSet_ok (newEnv_comp ?_)
  generalize hD : s2.heap.objs.size = D
  have nD : H2 D = none := I2.hok.fresh (Nat.le_of_eq hD)
  obtain ⟨W, ⟨m0, w0⟩, turn⟩ := q D nD
  generalize hs3 : ({ s2 with heap := s2.heap.push (nob X.w) } : Shared) = s3
  have I3 : Inv X pins σ (upd H2 D (SetO X.w D (fun _ => false) 0)) s3 := by
    rw [← hs3]
    refine I2.laid (t' := s2.toks) (fun b o e => Heap.get?_push_of_some _ e) (Nat.le_of_eq hD) ?_
    rw [← hD]
    exact setO_new (setR_fresh X.w)
  have h3 : s3.heap = s2.heap.push (nob X.w) := by rw [← hs3]
  have sz2 : ∀ b ∈ fp, b < s2.heap.objs.size := fun b hb => (T.obj _ _ st2 b hb).elim fun o z => Heap.lt_size z.1
  have f3 : ∀ b ∈ fp, FpOk X pins (upd H2 D (SetO X.w D (fun _ => false) 0)) b ∧ b < s3.heap.objs.size := fun b hb => by
    refine ⟨⟨?_, (f2 b hb).2⟩, by rw [h3, Heap.size_push]; exact Nat.lt_succ_of_lt (sz2 b hb)⟩
    rw [upd_ne (by rw [← hD]; exact Nat.ne_of_lt (sz2 b hb))]
    exact (f2 b hb).1
  have st3 : tn 0 s3.heap := T.keep _ _ _ st2 fun b _ o e => h3 ▸ Heap.get?_push_of_some _ e
  have I4 := block_start I3 ok hN f3
  have pg := hg s3 (upd H2 D (SetO X.w D (fun _ => false) 0)) s3.heap.objs.size (cellsFrom (s3.heap.objs.size + 1) scope.names (cloFrom X.env.cells scope.names [])) fp
  have pt := ht s3 (upd H2 D (SetO X.w D (fun _ => false) 0)) s3.heap.objs.size (cellsFrom (s3.heap.objs.size + 1) scope.names (cloFrom X.env.cells scope.names [])) fp
  have pe := he s3 (upd H2 D (SetO X.w D (fun _ => false) 0)) s3.heap.objs.size (cellsFrom (s3.heap.objs.size + 1) scope.names (cloFrom X.env.cells scope.names [])) fp
  have pc := hC s3 (upd H2 D (SetO X.w D (fun _ => false) 0)) s3.heap.objs.size (cellsFrom (s3.heap.objs.size + 1) scope.names (cloFrom X.env.cells scope.names [])) fp
  show codeAny _ _ (.compStart (scE elt (⟨tg, iter, ifs, 0⟩ :: gs) scope pos) 0 (.ref it) (.ref D) (compEnvC scope (cellsFrom (s3.heap.objs.size + 1) scope.names (cloFrom X.env.cells scope.names [])) s3.heap.objs.size X.env)) (compPost (model X.prog X.w) X.A X.xe none Qf (.ref D) s3.heap.objs.size) { s3 with heap := pushCells (s3.heap.push { cls := .type "dict", data := .dict #[] }) scope.names }
  have n0 : ∀ b ∈ fp, (upd H2 D (SetO X.w D (fun _ => false) 0)) b = none := fun b hb => (f3 b hb).1.1
  generalize hce : compEnvC scope (cellsFrom (s3.heap.objs.size + 1) scope.names (cloFrom X.env.cells scope.names [])) s3.heap.objs.size X.env = ce at I4 pg pt pe pc ⊢
  have cL : ce.locals = s3.heap.objs.size := hce ▸ rfl
  generalize hH3 : upd H2 D (SetO X.w D (fun _ => false) 0) = H3 at I3 I4 pg pt pe pc w0 n0 f3
  generalize hs4 : ({ s3 with heap := pushCells (s3.heap.push { cls := .type "dict", data := .dict #[] }) scope.names } : Shared) = s4 at I4 ⊢
  have st4 : tn 0 s4.heap := T.keep _ _ _ st3 fun b _ o e => hs4 ▸ pushCells_keeps _ _ _ _ (Heap.get?_push_of_some _ e)
  have stat : ∀ {σ' : L2.St} {H' : Hp} {s' : Shared}, Inv (X.blk s3 H3 scope ce fp) [] σ' H' s' → (∀ b ∈ fp, H' b = none) → ∀ b ∈ fp, FpOk (X.blk s3 H3 scope ce fp) [] H' b := fun {σ' H' s'} I' hn b hb =>
    ⟨hn b hb, (I'.ok.exf b hb).1, I'.ok.exfs b hb, .inl hb, fun x c e => (I'.ok.exf b hb).2 x c e, fun p hp => by cases (show p ∈ ([] : List (Addr × Obj)) ++ [] from hp)⟩
  have loop : codeAny (model X.prog X.w) X.A (.compLoop (scE elt (⟨tg, iter, ifs, 0⟩ :: gs) scope pos) 0 (.ref it) (.ref D) ce) (compPost (model X.prog X.w) X.A X.xe none Qf (.ref D) s3.heap.objs.size) s4 := by
    refine loopS (tg := tg) (iter := iter) (ifs := ifs) rfl (Cls.async pc rfl) (fun n s' => ∃ i H', Inv (X.blk s3 H3 scope ce fp) [] (wipe σ (own.map (·.2))) H' s' ∧ tn i s'.heap ∧ (∀ b ∈ fp, H' b = none) ∧ W i n H') ?_ m0 ⟨0, H3, I4, st4, n0, w0⟩
    rintro n s5 ⟨i, H5, I5, st5, n5, w5⟩
    unfold TurnS
    rcases turn i n H5 w5 with ⟨stop, qq⟩ | ⟨go, Nx, hNx, step⟩
    · refine thnF (T.done (X.blk s3 H3 scope ce fp) rfl rfl rfl hc i [] s5 _ H5 (fun _ _ => False) I5 (stat I5 n5) st5 stop) fun r s6 ⟨hr, I6⟩ => ?_
      subst hr
      have I7 : Inv X pins σ H5 s6 := I3.call' (ch := fp) I6.os I6.base I6.hok I6.bare fun b hb => ⟨(f3 b hb).1.2.2.2.1, (f3 b hb).1.2.1, (f3 b hb).1.2.2.2.2.1, (f3 b hb).1.2.2.2.2.2⟩
      have nC : H5 s3.heap.objs.size = none := cL ▸ (show H5 ce.locals = none from I6.free)
      obtain ⟨m, hn, _⟩ := I6.loc
      have hn : s6.heap.Ns ce.locals m := hn
      rw [cL] at hn
      exact hRR D s3.heap.objs.size s6 m H5 I7 qq hn (I3.fpOk (Nat.le_refl _) nC)
    · refine thnF (T.item (X.blk s3 H3 scope ce fp) rfl rfl rfl hc i [] s5 _ H5 (fun _ _ => False) I5 (stat I5 n5) st5 go) fun r s6 ⟨u, hr, h6⟩ => ?_
      subst hr
      refine thnF h6 fun _ s7 ⟨x, H7, I7, r7, y7, st7, n7⟩ => ?_
      have I7' := I7.pinned (stat I7 n7) (T.obj _ _ st7)
      refine thnF (pg.run _ s7 _ H7 x u _ I7' r7 (step x H7 y7)) fun _ s8 ⟨σ8, H8, I8, hw8, q8⟩ => ?_
      refine thnF (pt.run _ s8 σ8 H8 _ I8 q8) fun b s9 ⟨H9, I9, q9⟩ => ?_
      have fin : ∀ {σ' : L2.St} {s' : Shared} {H' : Hp}, Inv (X.blk s3 H3 scope ce fp) ([] ++ pinsAt fp s7.heap) σ' H' s' → σ'.length = σ8.length → (∀ (j : Nat) v, (wipe σ8 (headVs L))[j]? = some (some v) → σ'[j]? = some (some v)) → Nx H' →
          ∃ m, m < n ∧ ∃ i H', Inv (X.blk s3 H3 scope ce fp) [] (wipe σ (own.map (·.2))) H' s' ∧ tn i s'.heap ∧ (∀ b ∈ fp, H' b = none) ∧ W i m H' := fun {σ' s' H'} I' hl hk nx => by
        obtain ⟨m', hm, w'⟩ := hNx H' nx
        have pin' : ∀ b ∈ fp, ∀ o, s7.heap.get? b = some o → s'.heap.get? b = some o ∧ H' b = none := fun b hb o e =>
          have z := I'.pin (b, o) (List.mem_append_right _ (List.mem_append_right _ (mem_pinsAt hb e)))
          ⟨z.1, z.2.1⟩
        refine ⟨m', hm, i + 1, H', (I'.unpinned (pins := [])).weak (by rw [hl, ← hw8, wipe_length]) (fun j v e => ?_), T.keep _ _ _ st7 fun b hb o e => (pin' b hb o e).1, fun b hb => (T.obj _ _ st7 b hb).elim fun o z => (pin' b hb o z.1).2, w'⟩
        rw [← hw8] at e
        obtain ⟨e1, e2⟩ := wipe_some e
        exact hk j v (by rw [wipe_out fun z => e2 (hv j z)]; exact e1)
      cases b with
      | false => exact fin I9 rfl (fun j v e => (wipe_some e).1) q9
      | true => exact rest_run hc pe L gs 0 rfl pc _ σ8 H9 s9 Nx _ I9 q9 fun σ' H' s' I' hl hk nx => fin I' hl hk nx
  exact startS (tg := tg) (iter := iter) (ifs := ifs) rfl loop (T.self X.A 0 _ _ _ st4 loop)
/-- as a value -/
theorem pe_scN {elt tg iter : Expr} {ifs : List Expr} {gs : List Comprehension} {scope : Scope} {own : List (PySem.Str × Nat)} {pos : Pos} {wi : TI} {g : TG} {tt : TT} {te : TE} {L : List Cl} (hc : X.calm = true) (hN : X.N.Nodup) (hi : PI X tg iter wi) (ok : BlkOk X.N X.env.scope scope own) (hv : ∀ i ∈ headVs L, i ∈ own.map (·.2))
    (hg : ∀ (s : Shared) (H : Hp) (C : Addr) (cl : List (PySem.Str × Addr)) (fp : List Addr), PG (X.blk s H scope (compEnvC scope cl C X.env) fp) tg g) (ht : ∀ (s : Shared) (H : Hp) (C : Addr) (cl : List (PySem.Str × Addr)) (fp : List Addr), PTs (X.blk s H scope (compEnvC scope cl C X.env) fp) ifs tt)
    (hC : ∀ (s : Shared) (H : Hp) (C : Addr) (cl : List (PySem.Str × Addr)) (fp : List Addr), Cls (X.blk s H scope (compEnvC scope cl C X.env) fp) L gs)
    (he : ∀ (s : Shared) (H : Hp) (C : Addr) (cl : List (PySem.Str × Addr)) (fp : List Addr), PE (X.blk s H scope (compEnvC scope cl C X.env) fp) elt te) (hs : ∀ x, foldedSetIterable iter X.env x = pure x := by intro _; rfl) :
    PE X (.SetComp elt (⟨tg, iter, ifs, 0⟩ :: gs) scope pos) (tScN X.w wi g tt te L (own.map (·.2))) := by
  refine ⟨fun pins s σ H Q I h => ?_⟩
  rw [PpSet.eval_SetComp]
  refine scN_core hc hN I hi ok hv hg ht hC he hs h fun D C s' m H' I' q hn f => ⟨m, hn, fun h'' sb => ?_⟩
  obtain ⟨f0, f1, f2, f3, f4, f5⟩ := f
  exact ⟨.ref D, H', I'.turned (t' := s'.toks) (fun b o hb e => (sb.2 b hb).trans e) f0 f1 f3 f4 f5, rfl, q⟩
end
/-! ### what is walked -/
abbrev Walked (J : It) (H1 : Hp) (Qd : Hp → Prop) (B : V → Hp → (Hp → Prop) → Prop) : Prop := ∃ W : Nat → Nat → Hp → Prop, (∃ m, W 0 m H1) ∧ ∀ i m H, W i m H → (J.stop i H ∧ Qd H) ∨ (J.go i H ∧ ∃ Nx : Hp → Prop, (∀ H', Nx H' → ∃ m', m' < m ∧ W (i + 1) m' H') ∧ ∀ x H', J.yld i H x H' → B x H' Nx)
theorem w_range {lo : Int} {n : Nat} {H1 : Hp} {Qd : Hp → Prop} {B : V → Hp → (Hp → Prop) → Prop} (Pv : Nat → Hp → Prop) (h0 : Pv 0 H1) (hs : ∀ (i : Nat) H, i < n → Pv i H → B (.int (lo + i)) H (Pv (i + 1))) (hd : ∀ H, Pv n H → Qd H) : Walked (Itr lo n) H1 Qd B := by
  refine ⟨fun i m H => m = n - i ∧ i ≤ n ∧ Pv i H, ⟨n, rfl, Nat.zero_le _, h0⟩, ?_⟩
  rintro i m H ⟨rfl, hi, p⟩
  by_cases hlt : i < n
  · refine .inr ⟨hlt, Pv (i + 1), fun H' p' => ⟨n - (i + 1), by omega, rfl, hlt, p'⟩, fun x H' ⟨e, y⟩ => ?_⟩
    subst e y
    exact hs i _ hlt p
  · obtain rfl : i = n := by omega
    exact .inl ⟨Nat.le_refl _, hd H p⟩
theorem w_tup {K : PySem.W.Frag} {a : Addr} {xs : List V} {H1 : Hp} {Qd : Hp → Prop} {B : V → Hp → (Hp → Prop) → Prop} (Pv : Nat → Hp → Prop) (h0 : Pv 0 H1) (hl : ∀ i H, i ≤ xs.length → Pv i H → SqT K H a xs) (hs : ∀ i x H, xs[i]? = some x → Pv i H → B x H (Pv (i + 1))) (hd : ∀ H, Pv xs.length H → Qd H) : Walked (Itt K a) H1 Qd B := by
  refine ⟨fun i m H => m = xs.length - i ∧ i ≤ xs.length ∧ Pv i H, ⟨xs.length, rfl, Nat.zero_le _, h0⟩, ?_⟩
  rintro i m H ⟨rfl, hi, p⟩
  have q := hl i H hi p
  by_cases hlt : i < xs.length
  · refine .inr ⟨⟨xs, xs[i], q, by simp [hlt]⟩, Pv (i + 1), fun H' p' => ⟨xs.length - (i + 1), by omega, rfl, hlt, p'⟩, fun x H' ⟨e, y⟩ => ?_⟩
    subst e
    exact hs i x _ (y xs q) p
  · obtain rfl : i = xs.length := by omega
    exact .inl ⟨⟨xs, q, Nat.le_refl _⟩, hd H p⟩
theorem w_list {K : PySem.W.Frag} {a : Addr} {xs : List V} {H1 : Hp} {Qd : Hp → Prop} {B : V → Hp → (Hp → Prop) → Prop} (Pv : Nat → Hp → Prop) (h0 : Pv 0 H1) (hl : ∀ i H, i ≤ xs.length → Pv i H → SqL K H a xs) (hs : ∀ i x H, xs[i]? = some x → Pv i H → B x H (Pv (i + 1))) (hd : ∀ H, Pv xs.length H → Qd H) : Walked (Itl K a) H1 Qd B := by
  refine ⟨fun i m H => m = xs.length - i ∧ i ≤ xs.length ∧ Pv i H, ⟨xs.length, rfl, Nat.zero_le _, h0⟩, ?_⟩
  rintro i m H ⟨rfl, hi, p⟩
  have q := hl i H hi p
  by_cases hlt : i < xs.length
  · refine .inr ⟨⟨xs, xs[i], q, by simp [hlt]⟩, Pv (i + 1), fun H' p' => ⟨xs.length - (i + 1), by omega, rfl, hlt, p'⟩, fun x H' ⟨e, y⟩ => ?_⟩
    subst e
    exact hs i x _ (y xs q) p
  · obtain rfl : i = xs.length := by omega
    exact .inl ⟨⟨xs, q, Nat.le_refl _⟩, hd H p⟩
end G
set_option Elab.async false
set_option maxRecDepth 100000
set_option maxHeartbeats 4000000
namespace X1
open PySem L2
def top (i : Nat) : Stmt := PySem.Challenge.pw_xorbanks_k32_strides.main.body.getD i (.Pass ⟨0, 0, 0, 0⟩)
abbrev sIsInt : Stmt := top 9
abbrev sIsAddr : Stmt := top 11
abbrev sCkWidth : Stmt := top 12
abbrev sCkAddr : Stmt := top 13
abbrev sStrided : Stmt := top 15
abbrev sBox : Stmt := top 17
abbrev sTake : Stmt := top 18
abbrev sOf : Stmt := top 19
abbrev sRight : Stmt := top 20
abbrev sLaw : Stmt := top 21
/-- a def of the module, as it stands behind the top -/
structure At (K : PySem.W.Frag) (mg : Str → Option Value) (x : Str) (st : Stmt) (ps : List Str) (f : Addr) (fd : FuncData) : Prop where
  fn : Fun K x x st f fd
  mg : mg x = some (.ref f)
  bi : Binds K fd ps []
/-- what else the defs ask of the module -/
abbrev sIsWidth : Stmt := top 10
structure Txt (K : PySem.W.Frag) (mg : Str → Option Value) : Prop where
  isWidth : ∃ f fd, At K mg "is_width" sIsWidth ["value"] f fd
  isinstance : mg "isinstance" = none
  int : mg "int" = none
  bool : mg "bool" = none
  tuple : mg "tuple" = none
  len : mg "len" = none
  all : mg "all" = none
  sorted : mg "sorted" = none
  abs : mg "abs" = none
  range : mg "range" = none
  repr : mg "repr" = none
  max : mg "max" = none
  min : mg "min" = none
  mWidth : ∃ t, mg "MOST_WIDTH" = some (.int 16 t)
  mGroup : ∃ t, mg "MOST_IN_GROUP" = some (.int 64 t)
theorem iteFb {b : Bool} {A B : Prop} (h : b = false) (k : B) : if b = true then A else B := by
  subst h
  exact iteF k
theorem iteTb {b : Bool} {A B : Prop} (h : b = true) (k : A) : if b = true then A else B := by
  subst h
  exact iteT k
theorem yes {σ : St} {H : Hp} {Q : Bool → Hp → Prop} (h : Q true H) : tYes σ H Q := h
theorem qv {Q : VK} {v v' : V} {H : Hp} (e : v = v') (k : Q v' H) : Q v H := e ▸ k
section
variable {P : Program} {w : World} {K : PySem.W.Frag} {mg : Str → Option Value} {base : Heap}

/-! ### is_int, of an int -/
def spIsInt : Sp := fun vs H Q _ => ∃ i : Int, vs = [.int i] ∧ Q (.bl true) H
theorem scIsInt : FnScope ["value"] ["value"] (defScope sIsInt) := ⟨rfl, rfl, rfl, by decide +kernel, rfl, by decide +kernel, by decide +kernel⟩
theorem ok_isInt {f : Addr} {fd : FuncData} (A0 : At K mg "is_int" sIsInt ["value"] f fd) (T : Txt K mg) : FnOk P w K mg base CX0 1 f fd ["value"] spIsInt := by
  refine A0.fn.ok scIsInt (fun vs H Q E h => ?_) (fun cdv A outer s H vs Q E hr h => ?_)
  · obtain ⟨i, rfl, _⟩ := h
    rfl
  · obtain ⟨i, rfl, k⟩ := h
    refine ⟨_, pss_one (ps_ret (pe_and (pe_callB call_isi (by rfl) T.isinstance (by decide +kernel) (pa_cons (pv 0) (pa_cons (pe_bltn (v := .ty "int") (by rfl) T.int (by decide +kernel) rfl) pa_nil)))
      (pe_one (pe_not (pe_callB call_isi (by rfl) T.isinstance (by decide +kernel) (pa_cons (pv 0) (pa_cons (pe_bltn (v := .ty "bool") (by rfl) T.bool (by decide +kernel) rfl) pa_nil))))))), ?_⟩
    refine ⟨_, rfl, _, _, _, _, _, rfl, .ty _, .base (.int _), kit_ty (r := true) (by decide +kernel), _, rfl, iteT ?_⟩
    exact ⟨_, rfl, _, _, _, _, _, rfl, .ty _, .base (.int _), kit_ty (r := false) (by decide +kernel), _, rfl, k⟩

/-! ### is_address, of ints -/
def spIsAddr : Sp := fun vs H Q _ => ∃ wd v : Int, vs = [.int wd, .int v] ∧ 0 ≤ wd ∧ wd ≤ 1000 ∧ Q (.bl (decide (0 ≤ v ∧ v < 2 ^ wd.toNat))) H
theorem scIsAddr : FnScope ["width", "value"] ["width", "value"] (defScope sIsAddr) := ⟨rfl, rfl, rfl, by decide +kernel, rfl, by decide +kernel, by decide +kernel⟩
theorem ok_isAddr {f f1 : Addr} {fd fd1 : FuncData} (A0 : At K mg "is_address" sIsAddr ["width", "value"] f fd) (A1 : At K mg "is_int" sIsInt ["value"] f1 fd1) (T : Txt K mg) :
    FnOk P w K mg base CX0 2 f fd ["width", "value"] spIsAddr := by
  have G1 : FnOk P w K mg base CX0 1 f1 fd1 ["value"] spIsInt := ok_isInt A1 T
  refine A0.fn.ok scIsAddr (fun vs H Q E h => ?_) (fun cdv A outer s H vs Q E hr h => ?_)
  · obtain ⟨i, j, rfl, _⟩ := h
    rfl
  · obtain ⟨wd, v, rfl, h0, h1, k⟩ := h
    refine ⟨_, pss_one (ps_ret (pe_and (pe_call G1 hr (by rfl) A1.mg A1.fn.kp A1.bi .nil pass0 (pa_cons (pv 1) pa_nil))
      (pe_one (pe_chain op_le op_lt pe_int (pv 1) (pe_op op_shl pe_int (pv 0)))))), ?_⟩
    refine ⟨_, rfl, _, rfl, _, rfl, iteT ?_⟩
    refine ⟨_, rfl, _, _, rfl, rfl, _, rfl, ?_⟩
    by_cases hv : 0 ≤ v
    · refine iteTb (decide_eq_true hv) ?_
      refine ⟨_, rfl, _, _, rfl, rfl, ⟨h0, by omega, by decide⟩, _, _, rfl, rfl, ?_⟩
      exact qv (by rw [Int.one_mul]; simp [hv]) k
    · refine iteFb (decide_eq_false hv) ?_
      exact qv (by simp [hv]) k
/-- all of them addresses of the width -/
def InW (wd : Int) (ns : List Int) : Prop := ∀ x ∈ ns, 0 ≤ x ∧ x < 2 ^ wd.toNat
/-! ### are_addresses, of a tuple of addresses -/
/-! ### is_width, of an int -/
def spIsWidth : Sp := fun vs H Q _ => ∃ wd : Int, vs = [.int wd] ∧ 1 ≤ wd ∧ wd ≤ 16 ∧ Q (.bl true) H
theorem scIsWidth : FnScope ["value"] ["value"] (defScope sIsWidth) := ⟨rfl, rfl, rfl, by decide +kernel, rfl, by decide +kernel, by decide +kernel⟩
theorem ok_isWidth {f f1 : Addr} {fd fd1 : FuncData} (A0 : At K mg "is_width" sIsWidth ["value"] f fd) (A1 : At K mg "is_int" sIsInt ["value"] f1 fd1) (T : Txt K mg) : FnOk P w K mg base CX0 2 f fd ["value"] spIsWidth := by
  have G1 : FnOk P w K mg base CX0 1 f1 fd1 ["value"] spIsInt := ok_isInt A1 T
  obtain ⟨tw, hmw⟩ := T.mWidth
  refine A0.fn.ok scIsWidth (fun vs H Q E h => ?_) (fun cdv A outer s H vs Q E hr h => ?_)
  · obtain ⟨wd, rfl, _⟩ := h
    rfl
  · obtain ⟨wd, rfl, h0, h1, k⟩ := h
    refine ⟨_, pss_one (ps_ret (pe_and (pe_call G1 hr (by rfl) A1.mg A1.fn.kp A1.bi .nil pass0 (pa_cons (pv 0) pa_nil)) (pe_one (pe_chain op_le op_le pe_int (pv 0) (pe_glob (v := .int 16) (by rfl) hmw ⟨_, rfl⟩))))), ?_⟩
    refine ⟨_, rfl, _, rfl, _, rfl, iteT ?_⟩
    refine ⟨_, rfl, _, _, rfl, rfl, _, rfl, ?_⟩
    refine iteTb (decide_eq_true h0) ?_
    refine ⟨_, _, rfl, rfl, ?_⟩
    exact qv (show V.bl (decide (wd ≤ 16)) = V.bl true by rw [decide_eq_true h1]) k
def spCkWidth : Sp := fun vs H Q _ => ∃ wd : Int, vs = [.int wd] ∧ 1 ≤ wd ∧ wd ≤ 16 ∧ Q .non H
theorem scCkWidth : FnScope ["width"] ["width"] (defScope sCkWidth) := ⟨rfl, rfl, rfl, by decide +kernel, rfl, by decide +kernel, by decide +kernel⟩
theorem ok_ckWidth {f f1 : Addr} {fd fd1 : FuncData} (A0 : At K mg "check_width" sCkWidth ["width"] f fd) (A1 : At K mg "is_int" sIsInt ["value"] f1 fd1) (T : Txt K mg) : FnOk P w K mg base CX0 3 f fd ["width"] spCkWidth := by
  obtain ⟨f2, fd2, A2⟩ := T.isWidth
  have G2 : FnOk P w K mg base CX0 2 f2 fd2 ["value"] spIsWidth := ok_isWidth A2 A1 T
  refine A0.fn.ok scCkWidth (fun vs H Q E h => ?_) (fun cdv A outer s H vs Q E hr h => ?_)
  · obtain ⟨wd, rfl, _⟩ := h
    rfl
  · obtain ⟨wd, rfl, h0, h1, k⟩ := h
    refine ⟨_, pss_one (ps_if (pt_not (pt_val (pe_call G2 hr (by rfl) A2.mg A2.fn.kp A2.bi .nil pass0 (pa_cons (pv 0) pa_nil)))) (pss_one ps_never) pss_nil), ?_⟩
    refine ⟨_, rfl, _, rfl, h0, h1, _, rfl, ?_⟩
    exact iteF k
def spCkAddr : Sp := fun vs H Q _ => ∃ wd v : Int, vs = [.int wd, .int v] ∧ 0 ≤ wd ∧ wd ≤ 1000 ∧ 0 ≤ v ∧ v < 2 ^ wd.toNat ∧ Q .non H
theorem scCkAddr : FnScope ["width", "address"] ["width", "address"] (defScope sCkAddr) := ⟨rfl, rfl, rfl, by decide +kernel, rfl, by decide +kernel, by decide +kernel⟩
theorem ok_ckAddr {f f1 f2 : Addr} {fd fd1 fd2 : FuncData} (A0 : At K mg "check_address" sCkAddr ["width", "address"] f fd) (A1 : At K mg "is_int" sIsInt ["value"] f1 fd1)
    (A2 : At K mg "is_address" sIsAddr ["width", "value"] f2 fd2) (T : Txt K mg) : FnOk P w K mg base CX0 3 f fd ["width", "address"] spCkAddr := by
  have G2 : FnOk P w K mg base CX0 2 f2 fd2 ["width", "value"] spIsAddr := ok_isAddr A2 A1 T
  refine A0.fn.ok scCkAddr (fun vs H Q E h => ?_) (fun cdv A outer s H vs Q E hr h => ?_)
  · obtain ⟨wd, v, rfl, _⟩ := h
    rfl
  · obtain ⟨wd, v, rfl, h0, h1, h2, h3, k⟩ := h
    refine ⟨_, pss_one (ps_if (pt_not (pt_val (pe_call G2 hr (by rfl) A2.mg A2.fn.kp A2.bi .nil pass0 (pa_cons (pv 0) (pa_cons (pv 1) pa_nil))))) (pss_one ps_never) pss_nil), ?_⟩
    refine ⟨_, rfl, _, rfl, wd, v, rfl, h0, h1, _, rfl, ?_⟩
    exact iteFb (by rw [decide_eq_true ⟨h2, h3⟩]; rfl) k
end
end X1
set_option Elab.async false
set_option maxRecDepth 100000
set_option maxHeartbeats 4000000
namespace X1
open PySem L2
/-- the law's own stream of draws: three ints in a list -/
def BoxO (n : Int) (o : HO) : Prop := ∃ x0 x1 x2 : Int, o = .lst [.int x0, .int x1, .int x2] ∧ 0 ≤ x0 ∧ x0 < 2 ^ 1000 ∧ 0 ≤ x1 ∧ x1 < 2 ^ 62 ∧ 0 ≤ x2 ∧ x2 ≤ n
theorem BoxO.mono {n m : Int} {o : HO} (h : n ≤ m) (b : BoxO n o) : BoxO m o := by
  obtain ⟨x0, x1, x2, e, h0, h1, h2, h3, h4, h5⟩ := b
  exact ⟨x0, x1, x2, e, h0, h1, h2, h3, h4, by omega⟩
theorem BoxO.lst {n : Int} {o : HO} (b : BoxO n o) : ∃ xs, o = .lst xs := by
  obtain ⟨x0, x1, x2, e, _⟩ := b
  exact ⟨_, e⟩
/-- all but b as it was -/
def Sam (b : Addr) (H H' : Hp) : Prop := ∀ c o, c ≠ b → H c = some o → H' c = some o
theorem Sam.refl (b : Addr) (H : Hp) : Sam b H H := fun _ _ _ e => e
theorem Sam.trans {b : Addr} {H H1 H2 : Hp} (x : Sam b H H1) (y : Sam b H1 H2) : Sam b H H2 := fun c o n e => y c o n (x c o n e)
theorem Sam.upd {b : Addr} {o : HO} {H : Hp} : Sam b H (upd H b o) := fun c u n e => by rw [upd_ne n]; exact e
theorem Sam.new {b p : Addr} {o : HO} {H H' : Hp} (x : Sam b H H') (hp : H' p = none) : Sam b H (L2.upd H' p o) := fun c u n e => by
  rw [upd_ne (ne_of_none (x c u n e) hp)]
  exact x c u n e
theorem b01 (b : Bool) : -(2 ^ 64) < (if b = true then (1 : Int) else 0) ∧ (if b = true then (1 : Int) else 0) < 2 ^ 64 := by cases b <;> decide
theorem mulb {x M : Int} (b : Bool) (h0 : 0 ≤ x) (h : x < M) : 0 ≤ x * (if b = true then (1 : Int) else 0) ∧ x * (if b = true then (1 : Int) else 0) < M := by
  cases b
  · rw [if_neg (by decide), Int.mul_zero]
    omega
  · rw [if_pos rfl, Int.mul_one]
    exact ⟨h0, h⟩
theorem big300 : (0 : Int) < ((10 : Int) ^ (60 : Int).toNat) ^ (5 : Int).toNat ∧ ((10 : Int) ^ (60 : Int).toNat) ^ (5 : Int).toNat < 2 ^ 1000 := by decide +kernel
theorem mulB (x : Int) (b : Bool) : 0 ≤ x % (((10 : Int) ^ (60 : Int).toNat) ^ (5 : Int).toNat) * (if b = true then (1 : Int) else 0) ∧ x % (((10 : Int) ^ (60 : Int).toNat) ^ (5 : Int).toNat) * (if b = true then (1 : Int) else 0) < 2 ^ 1000 :=
  mulb b (Int.emod_nonneg x (Int.ne_of_gt big300.1)) (Int.lt_trans (Int.emod_lt_of_pos x big300.1) big300.2)
section
variable {P : Program} {w : World} {K : PySem.W.Frag} {mg : Str → Option Value} {base : Heap}
/-! ### _law_box -/
def spBox (K : PySem.W.Frag) : Sp := fun vs H Q _ => ∃ (a : Addr) (ns : List Int) (k : Nat), vs = [.ref a, .int (k : Int)] ∧ SqL K H a (ns.map V.int) ∧ k ≤ 1000 ∧ ∀ b o, H b = none → BoxO 0 o → Q (.ref b) (upd H b o)
theorem scBox : FnScope ["_law_script", "_law_k", "_law_cell", "_law_own"] ["_law_script", "_law_k"] (defScope sBox) := ⟨rfl, rfl, rfl, by decide +kernel, rfl, by decide +kernel, by decide +kernel⟩
theorem ok_box {f : Addr} {fd : FuncData} (A0 : At K mg "_law_box" sBox ["_law_script", "_law_k"] f fd) (T : Txt K mg) : FnOk P w K mg base CX0 1 f fd ["_law_script", "_law_k"] (spBox K) := by
  refine A0.fn.ok scBox (fun vs H Q E h => ?_) (fun cdv A outer s H vs Q E hr h => ?_)
  · obtain ⟨a, ns, k, rfl, _⟩ := h
    rfl
  · obtain ⟨a, ns, j, rfl, hS, hj, k⟩ := h
    refine ⟨_, pss_cons (ps_set (i := 2) scBox.nd rfl (Or.inl rfl) (pe_ifExp (pt_cmpR op_lt (pv 1) (pe_callB call_len_seq (by rfl) T.len PySem.boot_len (pa_cons (pv 0) pa_nil)) (nomark _))
        (pe_ix ix_list (pv 0) (pv 1) (fun _ _ => rfl)) (pe_op op_add (pe_op op_mul pe_int (pv 1)) pe_int)))
      (pss_cons (ps_set (i := 3) scBox.nd rfl (Or.inl rfl) (pe_op op_mul (pe_op op_mod (pe_callB call_abs (by rfl) T.abs (by decide +kernel) (pa_cons (pv 2) pa_nil)) (pe_op G.op_powW (pe_op op_pow pe_int pe_int) pe_int))
        (pe_callTy call_int1 (by rfl) T.int (by decide +kernel) (pa_cons (pe_cmpR op_ge (pe_callB call_abs (by rfl) T.abs (by decide +kernel) (pa_cons (pv 2) pa_nil)) (pe_op op_pow pe_int pe_int) (nomark _)) pa_nil))))
      (pss_one (ps_ret (pe_lst (pa_cons (pv 3) (pa_cons (pe_op op_mod (pe_op op_add (pe_op op_add (pe_op op_mul (pe_op op_mod (pv 2) pe_int) pe_int) (pe_op op_mul (pe_op op_mul pe_int (pv 1)) (pv 1))) pe_int) pe_int) (pa_cons pe_int pa_nil))))))), ?_⟩
    refine ⟨_, rfl, _, rfl, a, _, rfl, .inl hS, _, _, rfl, rfl, _, rfl, ?_⟩
    refine ite2 (fun hlt => ?g1) (fun hlt => ?g2)
    case' g1 =>
      obtain ⟨c, hc⟩ : ∃ c, ns[j]? = some c := ⟨_, List.getElem?_eq_getElem (by simpa using hlt)⟩
      refine ⟨_, rfl, _, rfl, a, _, _, _, rfl, rfl, hS, atI_nat (v := V.int c) (by rw [List.getElem?_map, hc]; rfl), ?_⟩
    case' g2 => refine ⟨_, rfl, _, _, rfl, rfl, .inl ⟨by decide, by decide⟩, _, _, rfl, rfl, ?_⟩
    all_goals
      refine ⟨_, rfl, _, rfl, _, _, rfl, rfl, ⟨by decide, by decide, by decide⟩, _, _, rfl, rfl, ⟨by decide, by decide +kernel⟩, _, _, rfl, rfl, big300.1, ?_⟩
      refine ⟨_, rfl, _, rfl, _, _, rfl, rfl, ⟨by decide, by decide, by decide⟩, _, _, rfl, rfl, .inr ⟨_, rfl, _, _, rfl, rfl, .inr (b01 _), ?_⟩⟩
      refine ⟨_, rfl, _, rfl, _, _, rfl, rfl, (by show (0 : Int) < 2305843009213693951; decide), _, _, rfl, rfl, .inr ⟨by decide, by decide⟩, _, rfl, _, _, rfl, rfl, .inl ⟨by decide, by decide⟩, _, rfl, _, _, rfl, rfl, .inr ⟨by omega, by omega⟩, _, _, rfl, rfl, _, _, rfl, rfl, _, _, rfl, rfl, (by show (0 : Int) < 2305843009213693921; decide), (by show 3 ≤ sizeLine; decide), fun b hb => ?_⟩
      exact k b _ hb ⟨_, _, _, rfl, (mulB _ _).1, (mulB _ _).2, Int.emod_nonneg _ (by decide), Int.lt_trans (Int.emod_lt_of_pos _ (by decide)) (by decide), Int.le_refl 0, Int.le_refl 0⟩
/-! ### _law_take -/
def spTake : Sp := fun vs H Q _ => ∃ (b : Addr) (n many : Int) (o : HO), vs = [.ref b, .int many] ∧ H b = some o ∧ BoxO n o ∧ n ≤ 1000000 ∧ 0 < many ∧ many < 2 ^ 1000 ∧
  ∀ v o', 0 ≤ v → v < many → BoxO (n + 1) o' → Q (.int v) (upd H b o')
theorem scTake : FnScope ["_law_box_here", "_law_many", "_law_digit", "_law_mixed"] ["_law_box_here", "_law_many"] (defScope sTake) := ⟨rfl, rfl, rfl, by decide +kernel, rfl, by decide +kernel, by decide +kernel⟩
theorem ok_take {f : Addr} {fd : FuncData} (A0 : At K mg "_law_take" sTake ["_law_box_here", "_law_many"] f fd) : FnOk P w K mg base CX0 1 f fd ["_law_box_here", "_law_many"] spTake := by
  refine A0.fn.ok scTake (fun vs H Q E h => ?_) (fun cdv A outer s H vs Q E hr h => ?_)
  · obtain ⟨b, n, m, o, rfl, _⟩ := h
    rfl
  · obtain ⟨b, n, m, o, rfl, hb, ⟨x0, x1, x2, rfl, h0, h1, h2, h3, h4, h5⟩, hn, m0, m1, k⟩ := h
    refine ⟨_, pss_cons (ps_if (pt_cmpR op_gt (pe_ix ix_list (pv 0) pe_int (fun _ _ => rfl)) pe_int (nomark _))
        (pss_cons (ps_set (i := 2) scTake.nd rfl (Or.inl rfl) (pe_op op_mod (pe_ix ix_list (pv 0) pe_int (fun _ _ => rfl)) (pv 1)))
        (pss_cons (ps_asg (pe_op op_fdivW (pe_ix ix_list (pv 0) pe_int (fun _ _ => rfl)) (pv 1)) (pg_sub (pv 0) pe_int set_list)) (pss_one (ps_ret (pv 2))))) pss_nil)
      (pss_cons (ps_asg (pe_op op_add (pe_ix ix_list (pv 0) pe_int (fun _ _ => rfl)) pe_int) (pg_sub (pv 0) pe_int set_list))
      (pss_cons (ps_set (i := 3) scTake.nd rfl (Or.inl rfl) (pe_op op_mod (pe_op op_mul (pe_op op_add (pe_op op_add (pe_ix ix_list (pv 0) pe_int (fun _ _ => rfl))
          (pe_op op_mul (pe_op op_mul pe_int (pe_ix ix_list (pv 0) pe_int (fun _ _ => rfl))) (pe_ix ix_list (pv 0) pe_int (fun _ _ => rfl)))) pe_int) pe_int) pe_int))
      (pss_cons (ps_set (i := 3) scTake.nd rfl (Or.inl rfl) (pe_op op_mod (pe_op op_mul (pv 3) (pe_op op_add (pe_op op_mod (pv 3) pe_int) (pe_op op_mul pe_int (pe_ix ix_list (pv 0) pe_int (fun _ _ => rfl))))) pe_int))
      (pss_one (ps_ret (pe_op op_mod (pe_op op_add (pe_op op_fdiv (pv 3) pe_int) (pe_op op_fdiv (pv 3) pe_int)) (pv 1))))))), ?_⟩
    refine ⟨_, rfl, b, _, 0, _, rfl, rfl, SqL.of hb, rfl, _, _, rfl, rfl, _, rfl, ?_⟩
    refine ite2 (fun hp => ?_) (fun hp => ?_)
    · refine ⟨_, rfl, b, _, 0, _, rfl, rfl, SqL.of hb, rfl, _, rfl, _, _, rfl, rfl, m0, ?_⟩
      refine ⟨_, rfl, b, _, 0, _, rfl, rfl, SqL.of hb, rfl, _, rfl, _, _, rfl, rfl, wide_div m0 (b := 1000) (by omega) (by decide) (by decide), ?_⟩
      refine ⟨_, rfl, b, _, 0, 0, rfl, rfl, hb, rfl, ?_⟩
      have hx : 0 ≤ x0 / m := Int.ediv_nonneg h0 (by omega)
      have hy : x0 / m ≤ x0 := Int.ediv_le_self m h0
      exact ⟨_, rfl, k _ _ (Int.emod_nonneg _ (by omega)) (Int.emod_lt_of_pos _ m0) ⟨_, _, _, rfl, hx, by omega, h2, h3, h4, by omega⟩⟩
    · refine ⟨_, rfl, b, _, 2, _, rfl, rfl, SqL.of hb, rfl, _, _, rfl, rfl, _, rfl, b, _, 2, 2, rfl, rfl, hb, rfl, ?_⟩
      have hb' : ∀ o, upd H b o b = some o := fun _ => upd_same
      refine ⟨_, rfl, b, _, 1, _, rfl, rfl, SqL.of upd_same, rfl, _, rfl, b, _, 2, _, rfl, rfl, SqL.of upd_same, rfl, _, _, rfl, rfl, .inl ⟨by decide, by decide⟩, _, rfl, b, _, 2, _, rfl, rfl, SqL.of upd_same, rfl, _, _, rfl, rfl, .inr ⟨by omega, by omega⟩, _, _, rfl, rfl, _, _, rfl, rfl, _, _, rfl, rfl, .inr ⟨by decide, by decide⟩, _, _, rfl, rfl, (by show (0 : Int) < 2305843009213693921; decide), ?_⟩
      have hq0 := Int.emod_nonneg ((x1 + 65551 * (x2 + 1) * (x2 + 1) + 17) * 48299) (b := 2305843009213693921) (by decide)
      have hq1 := Int.emod_lt_of_pos ((x1 + 65551 * (x2 + 1) * (x2 + 1) + 17) * 48299) (b := 2305843009213693921) (by decide)
      refine ⟨_, rfl, _, rfl, _, _, rfl, rfl, (by show (0 : Int) < 1000033; decide), _, rfl, b, _, 2, _, rfl, rfl, SqL.of upd_same, rfl, _, _, rfl, rfl, .inl ⟨by decide, by decide⟩, _, _, rfl, rfl, _, _, rfl, rfl, .inl ⟨by omega, by omega⟩, _, _, rfl, rfl, (by show (0 : Int) < 2305843009213693907; decide), ?_⟩
      refine ⟨_, rfl, _, _, rfl, rfl, ⟨by decide, by decide⟩, _, rfl, _, _, rfl, rfl, ⟨by decide, by decide⟩, _, _, rfl, rfl, _, rfl, _, _, rfl, rfl, m0, ?_⟩
      exact k _ _ (Int.emod_nonneg _ (by omega)) (Int.emod_lt_of_pos _ m0) ⟨_, _, _, rfl, h0, h1, h2, h3, by omega, by omega⟩
/-! ### _law_of -/
def spOf : Sp := fun vs H Q _ => ∃ (b p : Addr) (n : Int) (o : HO) (xs : List V), vs = [.ref b, .ref p] ∧ H b = some o ∧ BoxO n o ∧ n ≤ 1000000 ∧ H p = some (.lst xs) ∧ p ≠ b ∧ 0 < xs.length ∧ xs.length ≤ 1000 ∧
  ∀ (j : Nat) v o', xs[j]? = some v → BoxO (n + 1) o' → Q v (upd H b o')
theorem scOf : FnScope ["_law_box_here", "_law_some"] ["_law_box_here", "_law_some"] (defScope sOf) := ⟨rfl, rfl, rfl, by decide +kernel, rfl, by decide +kernel, by decide +kernel⟩
theorem ok_of {f f1 : Addr} {fd fd1 : FuncData} (A0 : At K mg "_law_of" sOf ["_law_box_here", "_law_some"] f fd) (A1 : At K mg "_law_take" sTake ["_law_box_here", "_law_many"] f1 fd1) (T : Txt K mg) :
    FnOk P w K mg base CX0 2 f fd ["_law_box_here", "_law_some"] spOf := by
  have G1 : FnOk P w K mg base CX0 1 f1 fd1 ["_law_box_here", "_law_many"] spTake := ok_take A1
  refine A0.fn.ok scOf (fun vs H Q E h => ?_) (fun cdv A outer s H vs Q E hr h => ?_)
  · obtain ⟨b, p, n, o, xs, rfl, _⟩ := h
    rfl
  · obtain ⟨b, p, n, o, xs, rfl, hb, B, hn, hp, npb, hl0, hl1, k⟩ := h
    refine ⟨_, pss_one (ps_ret (pe_ix ix_list (pv 1) (pe_call G1 hr (by rfl) A1.mg A1.fn.kp A1.bi .nil pass0 (pa_cons (pv 0) (pa_cons (pe_callB call_len_seq (by rfl) T.len PySem.boot_len (pa_cons (pv 1) pa_nil)) pa_nil))) (fun _ _ => rfl))), ?_⟩
    have big : (xs.length : Int) < 2 ^ 1000 := Int.lt_of_le_of_lt (show (xs.length : Int) ≤ 1000 by omega) (by decide +kernel)
    refine ⟨_, rfl, _, rfl, _, rfl, p, _, rfl, .inl (SqL.of hp), b, n, _, o, rfl, hb, B, hn, by omega, big, fun v o' v0 v1 B' => ?_⟩
    obtain ⟨j, rfl⟩ := Int.eq_ofNat_of_zero_le v0
    obtain ⟨x, hx⟩ : ∃ x, xs[j]? = some x := ⟨_, List.getElem?_eq_getElem (by omega)⟩
    exact ⟨p, xs, _, x, rfl, rfl, SqL.of (by rw [upd_ne npb]; exact hp), atI_nat hx, k j x o' hx B'⟩
end
end X1
set_option Elab.async false
set_option maxRecDepth 100000
set_option maxHeartbeats 4000000
namespace X1
open PySem L2
def nv (l : List Nat) : List V := l.map fun n : Nat => V.int (n : Int)
theorem nv_ints (l : List Nat) : nv l = (l.map fun n : Nat => (n : Int)).map V.int := by
  unfold nv
  rw [List.map_map]
  rfl
theorem at_map {ms : List Int} {i : Nat} {y : V} (h : (ms.map V.int)[i]? = some y) : ∃ m, ms[i]? = some m ∧ y = .int m ∧ i < ms.length ∧ ms.getD i 0 = m := by
  rw [List.getElem?_map] at h
  cases e : ms[i]? with
  | none =>
    rw [e] at h
    cases h
  | some m =>
    rw [e] at h
    cases h
    exact ⟨m, rfl, rfl, (List.getElem?_eq_some_iff.mp e).1, by rw [List.getD_eq_getElem?_getD, e]; rfl⟩
theorem at_new {H : Hp} {p q : Addr} {o u : HO} (h : H p = some o) (hq : H q = none) : upd H q u p = some o := by
  rw [upd_ne (ne_of_none h hq)]
  exact h
theorem keep_new {H H1 : Hp} {p : Addr} {o : HO} (s : Same H H1) (hp : H1 p = none) : Same H (upd H1 p o) := fun c u e => by
  rw [upd_ne (ne_of_none (s c u e) hp)]
  exact s c u e
theorem upd_none {H : Hp} {p q : Addr} {o : HO} (h : upd H q o p = none) : H p = none := by
  by_cases e : p = q
  · rw [e, upd_same] at h
    cases h
  · rwa [upd_ne e] at h
theorem none_of {H H1 : Hp} {p : Addr} (s : Same H H1) (h : H1 p = none) : H p = none := by
  cases e : H p with
  | none => rfl
  | some u =>
    rw [s _ _ e] at h
    cases h
theorem pw_le {sz : Int} (h1 : 1 ≤ sz) (h2 : sz ≤ 16) : (2 : Int) ≤ 2 ^ sz.toNat ∧ (2 : Int) ^ sz.toNat ≤ 65536 := by
  obtain ⟨k, rfl⟩ := Int.eq_ofNat_of_zero_le (show 0 ≤ sz by omega)
  have hk : k ≤ 16 := by omega
  have hk1 : 1 ≤ k := by omega
  have e : ∀ j : Nat, j < 17 → 1 ≤ j → (2 : Int) ≤ 2 ^ j ∧ (2 : Int) ^ j ≤ 65536 := by decide
  exact e k (by omega) hk1
/-- an ascending list of ints that are no less than 0 -/
theorem nat_list {L : List Int} (hs : L.Pairwise (· < ·)) (h0 : ∀ x ∈ L, 0 ≤ x) : ∃ PL : List Nat, L = PL.map (fun n : Nat => (n : Int)) ∧ PL.Pairwise (· < ·) := by
  refine ⟨L.map Int.toNat, ?_, ?_⟩
  · rw [List.map_map]
    have e : ∀ x ∈ L, ((fun n : Nat => (n : Int)) ∘ Int.toNat) x = id x := fun x hx => Int.toNat_of_nonneg (h0 x hx)
    rw [List.map_congr_left e, List.map_id]
  · rw [List.pairwise_map]
    refine List.Pairwise.imp_of_mem (fun {a b} ha hb h => ?_) hs
    have := h0 a ha
    omega
/-! ### what is shown of numbers -/
theorem num_shown {n : Nat} (h : n < 65536) : ((n : Int)).natAbs.log2 < 1920 ∧ (Str.ofString (toString (n : Int))).length ≤ 1921 := by
  have hlog : ((n : Int)).natAbs.log2 < 1920 := by
    by_cases z : ((n : Int)).natAbs = 0
    · rw [z]
      decide
    · exact (Nat.log2_lt z).mpr (Nat.lt_of_lt_of_le (show ((n : Int)).natAbs < 65536 by omega) (by decide +kernel))
  refine ⟨hlog, ?_⟩
  rw [ofString_length]
  exact int_text_length_le (by decide) hlog
def datL (l : List Nat) : List PyData := l.map fun n : Nat => PyData.int (n : Int)
theorem dp_nv {K : PySem.W.Frag} {H : Hp} : ∀ l : List Nat, DpAll K H (nv l) (datL l)
  | [] => .nil
  | n :: l => .cons (.int _) (dp_nv l)
theorem dat_facts : ∀ {l : List Nat}, (∀ n ∈ l, n < 65536) → PyData.showableAll (datL l) = true ∧ PyData.hasDictAll (datL l) = false ∧ PyData.depthAll (datL l) = 0 ∧ PyData.canLayAll0 (datL l) = true ∧ ((PyData.shownAll (datL l)).map (·.length)).sum ≤ 1921 * l.length ∧ (PyData.shownAll (datL l)).length = l.length
  | [], _ => ⟨rfl, rfl, rfl, rfl, Nat.le_refl _, rfl⟩
  | n :: l, h => by
    obtain ⟨a, b, c, d, e, f⟩ := dat_facts fun m hm => h m (List.mem_cons_of_mem _ hm)
    obtain ⟨h1, h2⟩ := num_shown (h n (List.mem_cons_self ..))
    refine ⟨?_, ?_, ?_, ?_, ?_, ?_⟩
    · show (decide (((n : Int)).natAbs.log2 < 1920) && PyData.showableAll (datL l)) = true
      rw [decide_eq_true h1, a]
      rfl
    · show (false || PyData.hasDictAll (datL l)) = false
      rw [b]
      rfl
    · show max 0 (PyData.depthAll (datL l)) = 0
      rw [c]
      rfl
    · show (true && PyData.canLayAll0 (datL l)) = true
      rw [d]
      rfl
    · show ((Str.ofString (toString (n : Int))).length + ((PyData.shownAll (datL l)).map (·.length)).sum) ≤ _
      rw [List.length_cons]
      omega
    · show (PyData.shownAll (datL l)).length + 1 = _
      rw [f, List.length_cons]
/-- two tuples in a list -/
def two (L : List Nat) : PyData := .list [.tuple (datL L), .tuple (datL L)]
theorem two_facts {L : List Nat} (hL : ∀ n ∈ L, n < 65536) (lL : L.length ≤ 1024) : (two L).showable = true ∧ (two L).hasDict = false ∧ (two L).depth ≤ 60 ∧ (two L).shown.length ≤ sizeLine := by
  obtain ⟨a', b', c', d', e', f'⟩ := dat_facts hL
  refine ⟨?_, ?_, ?_, ?_⟩
  · show (PyData.showableAll (datL L) && (PyData.showableAll (datL L) && true)) = true
    rw [a']
    rfl
  · show (PyData.hasDictAll (datL L) || (PyData.hasDictAll (datL L) || false)) = false
    rw [b']
    rfl
  · show max (PyData.depthAll (datL L) + 1) (max (PyData.depthAll (datL L) + 1) 0) + 1 ≤ 60
    rw [c']
    decide
  · show (listText [tupleText (PyData.shownAll (datL L)), tupleText (PyData.shownAll (datL L))]).length ≤ sizeLine
    have h := listText_len_le [tupleText (PyData.shownAll (datL L)), tupleText (PyData.shownAll (datL L))]
    have t2 := tupleText_len_le (PyData.shownAll (datL L))
    simp only [List.map_cons, List.map_nil, List.sum_cons, List.sum_nil, List.length_cons, List.length_nil] at h
    rw [sizeLine_eq]
    omega
/-! ### dicts of ints -/
def kdI (s : List Int) : List (Key × V) := s.map fun x => ((Sum.inl x : Key), V.bl true)
theorem kdI_keys (s : List Int) : (kdI s).map (·.1) = s.map Sum.inl := by
  unfold kdI
  rw [List.map_map]
  rfl
theorem kdI_len (s : List Int) : (kdI s).length = s.length := List.length_map ..
theorem kdI_none {x : Int} : ∀ {s : List Int}, x ∉ s → valV (kdI s) (Sum.inl x : Key) = none
  | [], _ => rfl
  | n :: s, h => by
    show valV (((Sum.inl n : Key), V.bl true) :: kdI s) _ = none
    rw [valV_neg (fun z => h (by rw [Sum.inl.inj z]; exact List.mem_cons_self ..))]
    exact kdI_none fun z => h (List.mem_cons_of_mem _ z)
theorem kdI_put (s : List Int) (x : Int) : putK (kdI s) (Sum.inl x) (V.bl true) = kdI (if x ∈ s then s else s ++ [x]) := by
  by_cases h : x ∈ s
  · rw [if_pos h]
    unfold putK
    have ha : ((kdI s).any fun kv => decide (kv.1 = (Sum.inl x : Key))) = true := List.any_eq_true.mpr ⟨((Sum.inl x : Key), V.bl true), List.mem_map.mpr ⟨x, h, rfl⟩, decide_eq_true rfl⟩
    rw [if_pos ha]
    unfold kdI
    rw [List.map_map]
    refine List.map_congr_left fun y _ => ?_
    show (if (Sum.inl y : Key) = Sum.inl x then ((Sum.inl y : Key), V.bl true) else ((Sum.inl y : Key), V.bl true)) = _
    split <;> rfl
  · rw [if_neg h, putK_new _ (kdI_none h)]
    unfold kdI
    rw [List.map_append]
    rfl
/-- ascending lists with the same members -/
theorem asc_eq {A B : List Int} (hA : A.Pairwise (· < ·)) (hB : B.Pairwise (· < ·)) (h : ∀ k, k ∈ A ↔ k ∈ B) : A = B := by
  have nd : ∀ {M : List Int}, M.Pairwise (· < ·) → M.Nodup := fun h => h.imp fun {a b} h z => by omega
  have p : A.Perm B := (List.perm_ext_iff_of_nodup (nd hA) (nd hB)).mpr h
  exact List.Perm.eq_of_pairwise (le := (· ≤ ·)) (fun a b _ _ h1 h2 => Int.le_antisymm h1 h2) (hA.imp fun {a b} h => Int.le_of_lt h) (hB.imp fun {a b} h => Int.le_of_lt h) p
theorem lt_of_le {L s : List Int} (h : L.Pairwise (· ≤ ·)) (p : L.Perm s) (n : s.Nodup) : L.Pairwise (· < ·) := by
  have nL : L.Nodup := p.nodup_iff.mpr n
  exact (h.and nL).imp fun {a b} ⟨h1, h2⟩ => by omega
section
variable {X : Cx}
def rSort2 (w : World) : List V → Hp → VK → Prop := fun vs H Q => ∃ (a : Addr) (S : Int → Bool) (O : HO), vs = [V.ref a] ∧ H a = some O ∧ (∃ n, O = SetO w a S n) ∧
  ∀ (ns : List Int) (p : Addr), ns.Pairwise (· < ·) → (∀ k : Int, k ∈ ns ↔ S k = true) → H p = none → Q (.ref p) (upd H p (.lst (ns.map V.int)))
theorem cr_sort2 (hc : X.calm = true) : CallR X (.builtin "sorted") (rSort2 X.w) := fun pins s σ H xs us Q I r h => G.cr_sortSet hc pins s σ H xs us Q I r (by
  obtain ⟨a, S, O, e, ha, ⟨n, rfl⟩, k⟩ := h
  exact ⟨a, S, n, e, ha, k⟩)
end
/-- the addresses that are reached -/
def Hits (M st by' : Int) (n : Nat) (k : Int) : Prop := ∃ j : Nat, j < n ∧ k = (st + (j : Int) * by') % M
theorem hits_0 {M st by' k : Int} : ¬ Hits M st by' 0 k := fun ⟨j, h, _⟩ => absurd h (Nat.not_lt_zero j)
theorem hits_next {M st by' k : Int} {n : Nat} : Hits M st by' (n + 1) k ↔ Hits M st by' n k ∨ k = (st + (n : Int) * by') % M := by
  constructor
  · rintro ⟨j, hj, e⟩
    by_cases h : j = n
    · subst h
      exact .inr e
    · exact .inl ⟨j, by omega, e⟩
  · rintro (⟨j, hj, e⟩ | e)
    · exact ⟨j, by omega, e⟩
    · exact ⟨n, by omega, e⟩
section
variable {P : Program} {w : World} {K : PySem.W.Frag} {mg : Str → Option Value} {base : Heap}
/-! ### strided -/
def spStrided : Sp := fun vs H Q _ => ∃ wd st by' cnt : Int, vs = [.int wd, .int st, .int by', .int cnt] ∧ 1 ≤ wd ∧ wd ≤ 16 ∧ 0 ≤ st ∧ st < 2 ^ wd.toNat ∧ 1 ≤ cnt ∧ cnt ≤ 64 ∧
  ∀ (p : Addr) (ns : List Int) (H' : Hp), Same H H' → H p = none → H' p = some (.tup (ns.map V.int)) → ns.Pairwise (· < ·) → (∀ k, k ∈ ns ↔ Hits (2 ^ wd.toNat) st by' cnt.toNat k) → Q (.ref p) H'
theorem scStrided : FnScope ["width", "start", "step", "count", "index"] ["width", "start", "step", "count"] (defScope sStrided) := ⟨rfl, rfl, rfl, by decide +kernel, rfl, by decide +kernel, by decide +kernel⟩
theorem ok_strided {f f1 f2 f3 f4 : Addr} {fd fd1 fd2 fd3 fd4 : FuncData} (A0 : At K mg "strided" sStrided ["width", "start", "step", "count"] f fd) (A1 : At K mg "is_int" sIsInt ["value"] f1 fd1) (A2 : At K mg "is_address" sIsAddr ["width", "value"] f2 fd2)
    (A3 : At K mg "check_width" sCkWidth ["width"] f3 fd3) (A4 : At K mg "check_address" sCkAddr ["width", "address"] f4 fd4) (T : Txt K mg) : FnOk P w K mg base CX0 4 f fd ["width", "start", "step", "count"] spStrided := by
  have G1 : FnOk P w K mg base CX0 1 f1 fd1 ["value"] spIsInt := ok_isInt A1 T
  have G3 : FnOk P w K mg base CX0 3 f3 fd3 ["width"] spCkWidth := ok_ckWidth A3 A1 T
  have G4 : FnOk P w K mg base CX0 3 f4 fd4 ["width", "address"] spCkAddr := ok_ckAddr A4 A1 A2 T
  obtain ⟨tg, hmg⟩ := T.mGroup
  refine A0.fn.ok scStrided (fun vs H Q E h => ?_) (fun cdv A outer s H vs Q E hr h => ?_)
  · obtain ⟨wd, st, by', cnt, rfl, _⟩ := h
    rfl
  · obtain ⟨wd, st, by', cnt, rfl, w1, w16, s0, s1, c1, c64, k⟩ := h
    have hr1 : Room 1 _ := hr.mono (by decide)
    have hr2 : Room 2 _ := hr.mono (by decide)
    refine ⟨_, pss_cons (ps_expr (pe_call G3 (hr.mono (by decide)) (by rfl) A3.mg A3.fn.kp A3.bi .nil pass0 (pa_cons (pv 0) pa_nil)))
      (pss_cons (ps_expr (pe_call G4 hr (by rfl) A4.mg A4.fn.kp A4.bi .nil pass0 (pa_cons (pv 0) (pa_cons (pv 1) pa_nil))))
      (pss_cons (ps_if (pt_not (pt_val (pe_call G1 hr1 (by rfl) A1.mg A1.fn.kp A1.bi .nil pass0 (pa_cons (pv 2) pa_nil)))) (pss_one ps_never) pss_nil)
      (pss_cons (ps_if (PW.pt (pw_or (pt_not (pt_val (pe_call G1 hr1 (by rfl) A1.mg A1.fn.kp A1.bi .nil pass0 (pa_cons (pv 3) pa_nil)))) (pw_or1 (pt_not (pt_chain op_le op_le pe_int (pv 3) (pe_glob (v := .int 64) (by rfl) hmg ⟨_, rfl⟩)))))) (pss_one ps_never) pss_nil)
      (pss_one (ps_ret (pe_callTy call_tuple_of (by rfl) T.tuple (by decide +kernel) (pa_cons (pe_callB (cr_sort2 rfl) (by rfl) T.sorted (by decide +kernel) (pa_cons
        (G.pe_scN (own := [("index", 4)]) (g := gName 4) (tt := tYes) (L := []) rfl scStrided.nd (pi_range1 (by rfl) T.range (pa_cons (pv 3) pa_nil)) (blkOk_by (N := ["width", "start", "step", "count", "index"]) (sc := defScope sStrided) (by decide +kernel)) (fun _ z => by cases z)
          (fun _ _ _ _ _ => pg_name (i := 4) scStrided.nd rfl (Or.inl rfl)) (fun _ _ _ _ _ => pts_nil) (fun _ _ _ _ _ => .nil)
          (fun _ _ _ _ _ => pe_op op_mod (pe_op op_add (pv 1) (pe_op op_mul (pv 4) (pv 2))) (pe_op op_shl pe_int (pv 0)))) pa_nil)) pa_nil))))))), ?_⟩
    refine ⟨_, rfl, wd, rfl, w1, w16, ?_⟩
    refine ⟨_, rfl, _, rfl, wd, st, rfl, by omega, by omega, s0, s1, ?_⟩
    refine ⟨_, rfl, by', rfl, _, rfl, iteF ?_⟩
    refine ⟨_, rfl, cnt, rfl, _, rfl, iteF ?_⟩
    refine ⟨_, rfl, _, _, rfl, rfl, _, rfl, ?_⟩
    refine iteTb (decide_eq_true c1) ?_
    refine ⟨_, _, rfl, rfl, _, rfl, ?_⟩
    refine iteFb (by rw [decide_eq_true c64]; rfl) ?_
    -- the set
    refine ⟨_, rfl, _, rfl, by omega, by omega, fun D hD => ?_⟩
    refine G.w_range (fun i H' => Same H H' ∧ ∃ (S : Int → Bool) (n : Nat), H' D = some (SetO w D S n) ∧ n ≤ i ∧ ∀ k, S k = true ↔ Hits (2 ^ wd.toNat) st by' i k)
      ⟨fun c u e => by rw [upd_ne (ne_of_none e hD)]; exact e, _, _, upd_same, Nat.le_refl _, fun k => ⟨fun z => (by cases z), fun z => (hits_0 z).elim⟩⟩ ?_ ?_
    · rintro i H1 hi ⟨sm, S, n, hd, hn, hS⟩
      have hi64 : i < 64 := by omega
      refine ⟨rfl, yes (iteT ?_)⟩
      refine ⟨_, rfl, _, rfl, _, rfl, _, _, rfl, rfl, .inl ⟨by omega, by omega⟩, _, _, rfl, rfl, _, rfl, _, _, rfl, rfl, ⟨by omega, by omega, by decide⟩, _, _, rfl, rfl, ?_, ?_⟩
      · rw [Int.one_mul]
        exact Int.pow_pos (by decide)
      · refine ⟨_, S, n, rfl, hd, by unfold scanBound; omega, fun c u e => by rw [upd_ne (ne_of_none e hD)]; exact sm c u e, _, _, upd_same, ?_, fun k => ?_⟩
        · split <;> omega
        · rw [hits_next, Bool.or_eq_true, decide_eq_true_iff, hS, Int.zero_add, Int.one_mul]
    · rintro H1 ⟨sm, S, n, hd, hn, hS⟩
      refine ⟨D, S, _, rfl, hd, ⟨n, rfl⟩, fun ns p asc mem hp => ?_⟩
      refine ⟨p, _, rfl, .inl ⟨SqL.of upd_same, fun l hl => ?_⟩⟩
      have hl1 : H1 l = none := upd_none hl
      have hl0 : H l = none := none_of sm hl1
      refine k l ns _ (fun c u e => ?_) hl0 upd_same asc fun k => by rw [mem, hS]
      have h1 := sm c u e
      rw [upd_ne (ne_of_none e hl0), upd_ne (ne_of_none h1 hp)]
      exact h1
/-- strided(count, step, start, width) by names -/
def byNames : List Value → List Value → List Value
  | [], [c, t, s, w] => [w, s, t, c]
  | _, _ => []
def byNamesV : List V → List V → List V
  | [], [c, t, s, w] => [w, s, t, c]
  | _, _ => []
theorem kb_strided {f : Addr} {fd : FuncData} (A0 : At K mg "strided" sStrided ["width", "start", "step", "count"] f fd) : KBinds K fd ["width", "start", "step", "count"] ["count", "step", "start", "width"] byNames byNamesV := by
  obtain ⟨oc, od, kV, doc, pm, an, cdv, ct, osl, efd, lk, hcd⟩ := A0.fn.ex
  subst efd
  refine ⟨fun s us ws _ hl => ?_, fun {vs us zs ws} h1 h2 => ?_⟩
  · match us, ws, hl with
    | [], [c, t, s, w], _ => exact .of_eq rfl
  · cases h1 with
    | cons _ _ => exact .nil
    | nil =>
      cases h2 with
      | nil => exact .nil
      | cons r1 h2 =>
        cases h2 with
        | nil => exact .nil
        | cons r2 h2 =>
          cases h2 with
          | nil => exact .nil
          | cons r3 h2 =>
            cases h2 with
            | nil => exact .nil
            | cons r4 h2 =>
              cases h2 with
              | nil => exact .cons r4 (.cons r3 (.cons r2 (.cons r1 .nil)))
              | cons _ _ => exact .nil
end
end X1
set_option Elab.async false
set_option maxRecDepth 100000
set_option maxHeartbeats 8000000
namespace X1
open PySem L2
theorem ife2 {c : Bool} {t1 t2 : TE} {σ : St} {H : Hp} {Q : VK} {z1 z2 : Int} (h1 : ∀ Q' : VK, Q' (.int z1) H → t1 σ H Q') (h2 : ∀ Q' : VK, Q' (.int z2) H → t2 σ H Q') (h : ∀ z : Int, Q (.int z) H) : if c = true then t1 σ H Q else t2 σ H Q := by
  cases c
  · exact h2 Q (h z2)
  · exact h1 Q (h z1)
section
variable {P : Program} {w : World} {K : PySem.W.Frag} {mg : Str → Option Value} {base : Heap}
/-! ### _law_right -/
def spRight : Sp := fun vs H Q _ => ∃ (b : Addr) (o : HO), vs = [.ref b] ∧ H b = some o ∧ BoxO 0 o ∧ ∀ H', Sam b H H' → Q (.bl true) H'
theorem scRight : FnScope ["_law_box_here", "_law_turn", "_law_size", "_law_first", "_law_many", "_law_by", "_law_found", "_law_spot", "_law_each", "_law_due", "_law_told"] ["_law_box_here"] (defScope sRight) := ⟨rfl, rfl, rfl, by decide +kernel, rfl, by decide +kernel, by decide +kernel⟩
theorem ok_right {f f1 f2 f3 : Addr} {fd fd1 fd2 fd3 : FuncData} (A0 : At K mg "_law_right" sRight ["_law_box_here"] f fd) (A1 : At K mg "_law_take" sTake ["_law_box_here", "_law_many"] f1 fd1)
    (A2 : At K mg "_law_of" sOf ["_law_box_here", "_law_some"] f2 fd2) (A3 : At K mg "strided" sStrided ["width", "start", "step", "count"] f3 fd3) (G3 : FnOk P w K mg base CX0 4 f3 fd3 ["width", "start", "step", "count"] spStrided) (T : Txt K mg) : G.FnG P w K mg base 5 f fd ["_law_box_here"] spRight := by
  have G1 : FnOk P w K mg base CX0 1 f1 fd1 ["_law_box_here", "_law_many"] spTake := ok_take A1
  have G2 : FnOk P w K mg base CX0 2 f2 fd2 ["_law_box_here", "_law_some"] spOf := ok_of A2 A1 T
  refine G.okG A0.fn scRight (fun vs H Q E h => ?_) (fun cdv A outer s H vs Q E hga hr h => ?_)
  · obtain ⟨b, o, rfl, _⟩ := h
    rfl
  · obtain ⟨b, o, rfl, hb, B, k⟩ := h
    have hr1 : Room 1 _ := hr.mono (by decide)
    have hr2 : Room 2 _ := hr.mono (by decide)
    have hgu : (A.deeper (PyProof.Rows.envOfC "_law_right" (defScope sRight) s.heap.objs.size f cdv)).guards = some [] := hga
    refine ⟨_, (pss_cons (ps_for PassesOwn.never rfl (pi_range1 (by rfl) T.range (pa_cons pe_int pa_nil)) (pg_name (i := 1) scRight.nd rfl (Or.inl rfl)) (pss_cons (ps_set (i := 2) scRight.nd rfl (Or.inl rfl) (pe_op op_add pe_int (pe_call G1 hr1 (by rfl) A1.mg A1.fn.kp A1.bi .nil pass0 (pa_cons (pv 0) (pa_cons pe_int pa_nil)))))
      (pss_cons (ps_par (i := 3) (j := 4) (by rfl) scRight.nd rfl rfl (by decide) rfl rfl (pa_cons (pe_call G1 hr1 (by rfl) A1.mg A1.fn.kp A1.bi .nil pass0 (pa_cons (pv 0) (pa_cons (pe_op op_shl pe_int (pv 2)) pa_nil))) (pa_cons (pe_op op_add pe_int (pe_call G1 hr1 (by rfl) A1.mg A1.fn.kp A1.bi .nil pass0 (pa_cons (pv 0) (pa_cons pe_int pa_nil)))) pa_nil)) (by rfl))
      (pss_cons (ps_set (i := 5) scRight.nd rfl (Or.inl rfl) (pe_call G2 hr2 (by rfl) A2.mg A2.fn.kp A2.bi .nil pass0 (pa_cons (pv 0) (pa_cons (pe_lst (pa_cons pe_int (pa_cons pe_int (pa_cons pe_int (pa_cons (pe_op op_shl pe_int (pe_call G1 hr1 (by rfl) A1.mg A1.fn.kp A1.bi .nil pass0 (pa_cons (pv 0) (pa_cons (pv 2) pa_nil)))) (pa_cons (pe_call G1 hr1 (by rfl) A1.mg A1.fn.kp A1.bi .nil pass0 (pa_cons (pv 0) (pa_cons (pe_op op_shl pe_int (pv 2)) pa_nil))) (pa_cons (pe_op op_add (pe_op op_pow pe_int pe_int) pe_int) (pa_cons (pe_op op_shl pe_int (pv 2)) pa_nil)))))))) pa_nil))))
      (pss_cons (ps_set (i := 5) scRight.nd rfl (Or.inl rfl) (pe_ifExp (pt_cmpR op_eq (pe_call G1 hr1 (by rfl) A1.mg A1.fn.kp A1.bi .nil pass0 (pa_cons (pv 0) (pa_cons pe_int pa_nil))) pe_int (nomark _)) (pe_op op_sub pe_int (pv 5)) (pv 5)))
      (pss_cons (ps_par (i := 6) (j := 7) (by rfl) scRight.nd rfl rfl (by decide) rfl rfl (pa_cons pe_dnewK (pa_cons (pv 3) pa_nil)) (by rfl))
      (pss_cons (ps_for PassesOwn.never rfl (pi_range1 (by rfl) T.range (pa_cons (pv 4) pa_nil)) (pg_name (i := 8) scRight.nd rfl (Or.inl rfl)) (pss_cons (ps_asg pe_bl (pg_sub (pv 6) (pv 7) (set_dict (hu_of hr))))
      (pss_one (ps_set (i := 7) scRight.nd rfl (Or.inl rfl) (pe_op op_mod (pe_op op_add (pv 7) (pv 5)) (pe_op op_shl pe_int (pv 2)))))))
      (pss_cons (ps_set (i := 9) scRight.nd rfl (Or.inl rfl) (pe_callTy call_tuple_of (by rfl) T.tuple (by decide +kernel) (pa_cons (pe_callB (G.cr_sortedAny rfl) (by rfl) T.sorted (by decide +kernel) (pa_cons (pv 6) pa_nil)) pa_nil)))
      (pss_cons (ps_set (i := 10) scRight.nd rfl (Or.inl rfl) (pe_lst (pa_cons (pe_call G3 hr (by rfl) A3.mg A3.fn.kp A3.bi .nil pass0 (pa_cons (pv 2) (pa_cons (pv 3) (pa_cons (pv 5) (pa_cons (pv 4) pa_nil))))) (pa_cons (G.pe_callK0 G3 hr (by rfl) A3.mg A3.fn.kp (kb_strided A3) pass0 (pk_cons (pv 4) (pk_cons (pv 5) (pk_cons (pv 3) (pk_cons (pv 2) pk_nil))))) pa_nil))))
      (pss_one (ps_if (pt_cmpR op_ne (pe_callB (G.call_repr_data (k := 4) hgu hr) (by rfl) T.repr (by decide +kernel) (pa_cons (pv 10) pa_nil)) (pe_callB (G.call_repr_data (k := 4) hgu hr) (by rfl) T.repr (by decide +kernel) (pa_cons (pe_lst (pa_cons (pv 9) (pa_cons (pv 9) pa_nil))) pa_nil)) (nomark _)) (pss_one (ps_ret pe_bl)) pss_nil)))))))))))
      (pss_one (ps_ret pe_bl))), ?_⟩
    have big : ∀ {x : Int}, x ≤ 70000 → x < 2 ^ 1000 := fun h => Int.lt_of_le_of_lt h (by decide +kernel)
    have toSam : ∀ {X Y : Hp}, Same X Y → Sam b X Y := fun h c u _ e => h c u e
    refine ⟨_, rfl, by decide, by decide, for_range (lo := 0) (n := 30) (fun i σ H' => ∃ (o1 : HO) (t1 t2 t3 t4 t5 t6 t7 t8 t9 t10 : Option V), σ = [some (.ref b), t1, t2, t3, t4, t5, t6, t7, t8, t9, t10] ∧ Sam b H H' ∧ H' b = some o1 ∧ BoxO (100 * (i : Int)) o1)
      ⟨o, none, none, none, none, none, none, none, none, none, none, rfl, Sam.refl b H, hb, by simpa using B⟩ ?_ ?_⟩
    · rintro i σ H1 hi ⟨o1, t1, t2, t3, t4, t5, t6, t7, t8, t9, t10, rfl, sm, hb1, B1⟩
      refine ⟨_, rfl, b, _, 16, o1, rfl, hb1, B1, by omega, by decide, big (by decide), fun v o2 v0 v1 B2 => ?_⟩
      refine ⟨_, _, rfl, rfl, ?_⟩
      have w1 : 1 ≤ (1 + v) := by omega
      have w16 : (1 + v) ≤ 16 := by omega
      obtain ⟨p2a, p2b⟩ := pw_le w1 w16
      have e1 : (1 : Int) * 2 ^ (1 + v).toNat = 2 ^ (1 + v).toNat := Int.one_mul _
      -- the start, how many
      refine ⟨_, rfl, _, rfl, _, _, rfl, rfl, ⟨by omega, by omega, by decide⟩, b, _, _, o2, rfl, upd_same, B2, by omega, by omega, big (by omega), fun st o3 s0 s1 B3 => ?_⟩
      refine ⟨_, rfl, b, _, 64, o3, rfl, upd_same, B3, by omega, by decide, big (by decide), fun v2 o4 c0 c1 B4 => ?_⟩
      refine ⟨_, _, rfl, rfl, ?_⟩
      refine ⟨_, _, rfl, ?_⟩
      have c1' : 1 ≤ (1 + v2) := by omega
      have c64 : (1 + v2) ≤ 64 := by omega
      -- the step
      refine ⟨_, rfl, _, rfl, _, rfl, b, _, _, o4, rfl, upd_same, B4, by omega, by omega, big (by omega), fun v3 o5 x0 x1 B5 => ?_⟩
      refine ⟨_, _, rfl, rfl, ⟨x0, by omega, by decide⟩, ?_⟩
      refine ⟨_, rfl, _, rfl, _, _, rfl, rfl, ⟨by omega, by omega, by decide⟩, b, _, _, o5, rfl, upd_same, B5, by omega, by omega, big (by omega), fun v4 o6 y0 y1 B6 => ?_⟩
      refine ⟨_, _, rfl, rfl, ⟨by decide, by decide +kernel⟩, _, _, rfl, rfl, _, rfl, _, _, rfl, rfl, ⟨by omega, by omega, by decide⟩, by show 7 ≤ sizeLine; decide, fun q hq => ?_⟩
      have nqb : q ≠ b := (ne_of_none (a := b) (H := upd _ b o6) upd_same hq).symm
      refine ⟨b, q, _, o6, ([1, 0, 3, 1 * 2 ^ v3.toNat, v4, (10 : Int) ^ (29 : Int).toNat + 7, 1 * 2 ^ (1 + v).toNat].map V.int), rfl, at_new upd_same hq, B6, by omega, upd_same, nqb, by show 0 < 7; decide, by show 7 ≤ 1000; decide, fun j z o7 hj B7 => ?_⟩
      obtain ⟨by0, _, rfl, _, _⟩ := at_map hj
      -- its sign
      refine ⟨_, rfl, b, _, 3, o7, rfl, upd_same, B7, by omega, by decide, big (by decide), fun v5 o8 _ _ B8 => ?_⟩
      have smA : Sam b H1 _ := (((((((Sam.upd (o := o2)).trans (Sam.upd (o := o3))).trans (Sam.upd (o := o4))).trans (Sam.upd (o := o5))).trans (Sam.upd (o := o6))).new (o := .lst ([1, 0, 3, 1 * 2 ^ v3.toNat, v4, (10 : Int) ^ (29 : Int).toNat + 7, 1 * 2 ^ (1 + v).toNat].map V.int)) hq).trans (Sam.upd (o := o7))).trans (Sam.upd (o := o8))
      refine ⟨rfl, _, rfl, ife2 (fun Q' q => ⟨_, rfl, _, _, rfl, rfl, q⟩) (fun Q' q => ⟨_, rfl, q⟩) (fun by' => ?_)⟩
      intro d hd
      have ndb : d ≠ b := (ne_of_none (a := b) (H := upd _ b o8) upd_same hd).symm
      have nd : ∀ c u, c ≠ b → H1 c = some u → c ≠ d := fun c u n e => ne_of_none (smA c u n e) hd
      refine ⟨_, rfl, _, _, rfl, ?_⟩
      -- one behind the other
      refine ⟨_, rfl, _, rfl, by omega, by omega, for_range (lo := 0) (n := (1 + v2).toNat) (fun j σ H' => ∃ (s : List Int) (sp : Int) (t1 t8 t9 t10 : Option V), σ = [some (.ref b), t1, some (.int (1 + v)), some (.int st), some (.int (1 + v2)), some (.int by'), some (.ref d), some (.int sp), t8, t9, t10] ∧ Sam b H1 H' ∧ H' b = some o8 ∧
          H' d = some (.dK (kdI s)) ∧ s.length ≤ j ∧ s.Nodup ∧ (∀ k, k ∈ s ↔ Hits (2 ^ (1 + v).toNat) st by' j k) ∧ sp = (st + (j : Int) * by') % 2 ^ (1 + v).toNat)
        ⟨[], st, _, _, _, _, rfl, fun c u n e => ?_, ?_, upd_same, Nat.le_refl _, .nil, fun k => ⟨fun z => (by cases z), fun z => (hits_0 z).elim⟩, ?_⟩ ?_ ?_⟩
      · rw [upd_ne (nd c u n e)]
        exact smA c u n e
      · rw [upd_ne ndb.symm]
        exact upd_same
      · rw [Int.natCast_zero, Int.zero_mul, Int.add_zero]
        exact (Int.emod_eq_of_lt s0 (by rw [← e1]; exact s1)).symm
      · rintro j σ H2 hj ⟨s, sp, t1', t8', t9', t10', rfl, sm2, hb2, hd2, ls, ns, ms, esp⟩
        refine ⟨_, rfl, _, rfl, d, _, rfl, DPut.k (k := Sum.inl sp) hd2 (by rw [kdI_len]; exact Nat.lt_of_le_of_lt ls (Nat.lt_trans hj (Nat.lt_of_le_of_lt (show (1 + v2).toNat ≤ 64 by omega) (by decide)))), ?_⟩
        refine ⟨_, rfl, _, rfl, _, _, rfl, rfl, _, rfl, _, _, rfl, rfl, ⟨by omega, by omega, by decide⟩, _, _, rfl, rfl, by rw [e1]; omega, ?_⟩
        refine ⟨(if sp ∈ s then s else s ++ [sp]), _, _, _, _, _, rfl, fun c u n e => ?_, ?_, ?_, ?_, ?_, fun k => ?_, ?_⟩
        · rw [upd_ne (nd c u n e)]
          exact sm2 c u n e
        · rw [upd_ne ndb.symm]
          exact hb2
        · rw [upd_same, kdI_put]
        · split
          · omega
          · rw [List.length_append, List.length_singleton]
            omega
        · split
          · exact ns
          · rename_i h
            rw [List.nodup_append]
            exact ⟨ns, (List.pairwise_singleton _ _), fun x hx y hy => by rw [List.mem_singleton.mp hy]; exact fun z => h (z ▸ hx)⟩
        · rw [hits_next, ← ms, ← esp]
          split
          · rename_i h
            exact ⟨fun z => .inl z, fun z => z.elim id fun e => e ▸ h⟩
          · rw [List.mem_append, List.mem_singleton]
        · rw [e1, esp, Int.emod_add_emod]
          congr 1
          rw [Int.natCast_succ, Int.add_mul, Int.one_mul, Int.add_assoc]
      · rintro σ H2 ⟨s, sp, t1', t8', t9', t10', rfl, sm2, hb2, hd2, ls, ns, ms, esp⟩
        -- what is due
        refine ⟨_, rfl, d, kdI s, s, rfl, .inl hd2, kdI_keys s, fun ys q2 pm srt hq2 => ?_⟩
        refine ⟨q2, _, rfl, .inl ⟨SqL.of upd_same, fun l hl => ?_⟩⟩
        have asc := lt_of_le srt pm ns
        have mem : ∀ k, k ∈ ys ↔ Hits (2 ^ (1 + v).toNat) st by' (1 + v2).toNat k := fun k => by rw [pm.mem_iff, ms]
        have mpos : (0 : Int) < 2 ^ (1 + v).toNat := by omega
        obtain ⟨L, eL, _⟩ := nat_list asc fun x hx => by
          obtain ⟨j, _, e⟩ := (mem x).mp hx
          rw [e]
          exact Int.emod_nonneg _ (by omega)
        have hL : ∀ n ∈ L, n < 65536 := fun n hn => by
          obtain ⟨j, _, e⟩ := (mem (n : Int)).mp (by rw [eL]; exact List.mem_map.mpr ⟨n, hn, rfl⟩)
          have := Int.emod_lt_of_pos (st + (j : Int) * by') mpos
          omega
        have lL : L.length ≤ 1024 := by
          have e : L.length = s.length := by rw [← pm.length_eq, eL, List.length_map]
          omega
        have smB : Sam b H1 (upd (upd H2 q2 (.lst (ys.map V.int))) l (.tup (ys.map V.int))) := (sm2.new (o := .lst (ys.map V.int)) hq2).new hl
        have hbB := at_new (u := .tup (ys.map V.int)) (at_new (u := .lst (ys.map V.int)) hb2 hq2) hl
        have hlB : (upd (upd H2 q2 (.lst (ys.map V.int))) l (.tup (ys.map V.int))) l = some (.tup (ys.map V.int)) := upd_same
        generalize (upd (upd H2 q2 (.lst (ys.map V.int))) l (.tup (ys.map V.int))) = H3 at smB hbB hlB ⊢
        -- what is told
        refine ⟨_, rfl, _, rfl, _, rfl, _, rfl, (1 + v), st, by', (1 + v2), rfl, w1, w16, s0, by rw [← e1]; exact s1, c1', c64, fun p1 ns1 H4 sm4 hp1 hq4 asc1 mem1 => ?_⟩
        refine ⟨_, rfl, _, rfl, _, rfl, _, rfl, (1 + v), st, by', (1 + v2), rfl, w1, w16, s0, by rw [← e1]; exact s1, c1', c64, fun p2 ns2 H5 sm5 hp2 hq5 asc2 mem2 => ?_⟩
        have en1 : ns1 = ys := asc_eq asc1 asc fun k => by rw [mem1, mem]
        have en2 : ns2 = ys := asc_eq asc2 asc fun k => by rw [mem2, mem]
        subst en1 en2
        have dpL : ∀ {H : Hp} {q : Addr}, H q = some (.tup (ns2.map V.int)) → Dp K H (.ref q) (.tuple (datL L)) := fun h => .tup (SqT.of h) (by rw [eL, ← nv_ints]; exact dp_nv L)
        obtain ⟨z1, zd, z3, z2⟩ := two_facts hL lL
        refine ⟨by show 2 ≤ sizeLine; decide, fun e he => ?_⟩
        have h1e := at_new (u := .lst [.ref p1, .ref p2]) (sm5 _ _ hq4) he
        have h2e := at_new (u := .lst [.ref p1, .ref p2]) hq5 he
        refine ⟨_, rfl, e, two L, rfl, .lst (SqL.of upd_same) (.cons (dpL h1e) (.cons (dpL h2e) .nil)), z1, zd, z3, z2, ?_⟩
        have hl5 := at_new (u := .lst [.ref p1, .ref p2]) (sm5 _ _ (sm4 _ _ hlB)) he
        refine ⟨_, rfl, _, rfl, by show 2 ≤ sizeLine; decide, fun g hg => ?_⟩
        have hlg := at_new (u := .lst [.ref l, .ref l]) hl5 hg
        refine ⟨g, two L, rfl, .lst (SqL.of upd_same) (.cons (dpL hlg) (.cons (dpL hlg) .nil)), z1, zd, z3, z2, ?_⟩
        refine ⟨rfl, _, rfl, iteNS rfl ?_⟩
        have sF : ∀ c u, H3 c = some u → (upd (upd H5 e (.lst [.ref p1, .ref p2])) g (.lst [.ref l, .ref l])) c = some u := fun c u h => at_new (u := .lst [.ref l, .ref l]) (at_new (u := .lst [.ref p1, .ref p2]) (sm5 _ _ (sm4 _ _ h)) he) hg
        exact ⟨o8, _, _, _, _, _, _, _, _, _, _, rfl, (sm.trans smB).trans (toSam sF), sF _ _ hbB, B8.mono (by omega)⟩
    · rintro σ H1 ⟨o1, t1, t2, t3, t4, t5, t6, t7, t8, t9, t10, rfl, sm, hb1, B1⟩
      exact k H1 sm
end
end X1
set_option Elab.async false
set_option maxRecDepth 100000
set_option maxHeartbeats 4000000
namespace X1
open PySem L2
section
variable {P : Program} {w : World} {K : PySem.W.Frag} {mg : Str → Option Value} {base : Heap}
def spLaw (K : PySem.W.Frag) : Sp := fun vs H Q _ => ∃ (a : Addr) (ns : List Int), vs = [.ref a] ∧ SqL K H a (ns.map V.int) ∧ ns.length ≤ 63 ∧ ∀ H', Q (.bl true) H'
theorem scLaw : FnScope ["_law_script", "_law_k"] ["_law_script"] (defScope sLaw) := ⟨rfl, rfl, rfl, by decide +kernel, rfl, by decide +kernel, by decide +kernel⟩
theorem ok_law {f fR fB : Addr} {fd fdR fdB : FuncData} (A0 : Fun K "law" "law" sLaw f fd) (AR : At K mg "_law_right" sRight ["_law_box_here"] fR fdR) (AB : At K mg "_law_box" sBox ["_law_script", "_law_k"] fB fdB)
    (GR : G.FnG P w K mg base 5 fR fdR ["_law_box_here"] spRight) (T : Txt K mg) : G.FnG P w K mg base 6 f fd ["_law_script"] (spLaw K) := by
  have GB : FnOk P w K mg base CX0 1 fB fdB ["_law_script", "_law_k"] (spBox K) := ok_box AB T
  refine G.okG A0 scLaw (fun vs H Q E h => ?_) (fun cdv A outer s H vs Q E hga hr h => ?_)
  · obtain ⟨a, ns, rfl, _⟩ := h
    rfl
  · obtain ⟨a, ns, rfl, hS, hl, k⟩ := h
    have hr1 : Room 1 _ := hr.mono (by decide)
    have hgu : (A.deeper (PyProof.Rows.envOfC "law" (defScope sLaw) s.heap.objs.size f cdv)).guards = some [] := hga
    refine ⟨_, pss_one (ps_ret (pe_callB (cr_all rfl) (by rfl) T.all (by decide +kernel) (pa_cons (pe_lc (own := [("_law_k", 1)]) (g := gName 1) (tt := tYes) rfl scLaw.nd (pi_range1 (by rfl) T.range (pa_cons (pe_callB (call_max2 rfl) (by rfl) T.max (by decide +kernel) (pa_cons pe_int (pa_cons (pe_callB (call_min2 rfl) (by rfl) T.min (by decide +kernel) (pa_cons (pe_callB call_len_seq (by rfl) T.len PySem.boot_len (pa_cons (pv 0) pa_nil)) (pa_cons pe_int pa_nil))) pa_nil))) pa_nil)) (blkOk_by (N := ["_law_script", "_law_k"]) (sc := defScope sLaw) (by decide +kernel)) (fun _ _ _ _ _ => pg_name (i := 1) scLaw.nd rfl (Or.inl rfl)) (fun _ _ _ _ _ => pts_nil) (fun _ _ _ _ _ => G.pe_callG GR hgu hr (by rfl) AR.mg AR.fn.kp AR.bi .nil (pa_cons (pe_call GB hr1 (by rfl) AB.mg AB.fn.kp AB.bi .nil pass0 (pa_cons (pv 0) (pa_cons (pv 1) pa_nil))) pa_nil))) pa_nil))), ?_⟩
    refine ⟨_, rfl, a, _, rfl, .inl hS, _, _, rfl, _, _, rfl, ?_⟩
    rw [List.length_map]
    refine ⟨_, rfl, ?_, ?_, ?_⟩
    · show -(2 ^ 62) ≤ (if (if (3 : Int) < (ns.length : Int) then (3 : Int) else (ns.length : Int)) > 1 then (if (3 : Int) < (ns.length : Int) then (3 : Int) else (ns.length : Int)) else 1)
      omega
    · show (if (if (3 : Int) < (ns.length : Int) then (3 : Int) else (ns.length : Int)) > 1 then (if (3 : Int) < (ns.length : Int) then (3 : Int) else (ns.length : Int)) else 1) < 2 ^ 62
      omega
    intro D hD
    refine lc_range (lo := 0) (fun i H' => Same H H' ∧ H' D = some (.lst ((List.replicate i true).map V.bl))) ⟨fun c o e => by rw [upd_ne (ne_of_none e hD)]; exact e, upd_same⟩ ?_ ?_
    · rintro i H1 hi ⟨s1, hd⟩
      have hi3 : i < 3 := by
        have hi' : i < ((if (if (3 : Int) < (ns.length : Int) then (3 : Int) else (ns.length : Int)) > 1 then (if (3 : Int) < (ns.length : Int) then (3 : Int) else (ns.length : Int)) else 1)).toNat := hi
        omega
      refine ⟨rfl, yes (iteT ?_)⟩
      refine ⟨_, rfl, _, rfl, a, ns, i, by rw [Int.zero_add]; rfl, s1.seq hS, by omega, fun b o hb B => ?_⟩
      have nDb : D ≠ b := ne_of_none hd hb
      refine ⟨b, o, rfl, upd_same, B, fun H2 s2 => ?_⟩
      have hD2 : H2 D = some (.lst ((List.replicate i true).map V.bl)) := s2 D _ nDb ((upd_ne nDb).trans hd)
      refine ⟨_, hD2, ?_, fun c u e => ?_, ?_⟩
      · rw [List.length_map, List.length_replicate]
        exact Nat.lt_trans hi3 (by decide)
      · have ncD : c ≠ D := ne_of_none e hD
        have e1 := s1 c u e
        have ncb : c ≠ b := ne_of_none e1 hb
        rw [upd_ne ncD]
        exact s2 c u ncb ((upd_ne ncb).trans e1)
      · rw [upd_same, List.replicate_succ', List.map_append]
        rfl
    · rintro H1 ⟨s1, hd⟩
      refine ⟨D, _, rfl, SqL.of hd, ?_⟩
      rw [show ∀ j : Nat, (List.replicate j true).all id = true from fun j => by simp]
      exact k H1
end
/-! ### what the top has written, the head -/
theorem all_mk {l : PySem.W.OpenLaw} {w : World} {K : PySem.W.Frag} {h : Heap} {mg : Str → Option Value} {fa fW f0 f1 f2 f3 f4 f5 f6 f7 f8 f9 : Addr} (X : K.In h) (Gn : h.Ns mainGlobals mg) (hfa : mg "law" = some (.ref fa))
    {od0 an0 od1 an1 od2 an2 od3 an3 od4 an4 od5 an5 od6 an6 od7 an7 od8 an8 od9 an9 : Option Addr} {sl0 sl1 sl2 sl3 sl4 sl5 sl6 sl7 sl8 sl9 : Array (Option Value)} {oc0 kV0 dc0 pm0 cd0 ct0 oc1 kV1 dc1 pm1 cd1 ct1 oc2 kV2 dc2 pm2 cd2 ct2 oc3 kV3 dc3 pm3 cd3 ct3 oc4 kV4 dc4 pm4 cd4 ct4 oc5 kV5 dc5 pm5 cd5 ct5 oc6 kV6 dc6 pm6 cd6 ct6 oc7 kV7 dc7 pm7 cd7 ct7 oc8 kV8 dc8 pm8 cd8 ct8 oc9 kV9 dc9 pm9 cd9 ct9 : Value} {tk0 tk1 : Tok}
    {odW anW : Option Addr} {slW : Array (Option Value)} {ocW kVW dcW pmW cdW ctW : Value}
    (aW : PySem.W.nsIn K mainGlobals "is_width" = some (some (.ref fW))) (lW : K.lookup fW = some ⟨ocW, odW, .func (PySem.W.fnOf "is_width" "is_width" (defArgs sIsWidth) (defBody sIsWidth) (defScope sIsWidth) .none kVW dcW pmW anW cdW ctW), slW⟩) (cW : PySem.W.codeIn K cdW "is_width" = true) (kW : PySem.W.keepIn K (.ref fW) = true)
    (a0 : PySem.W.nsIn K mainGlobals "is_int" = some (some (.ref f0))) (l0 : K.lookup f0 = some ⟨oc0, od0, .func (PySem.W.fnOf "is_int" "is_int" (defArgs sIsInt) (defBody sIsInt) (defScope sIsInt) .none kV0 dc0 pm0 an0 cd0 ct0), sl0⟩) (c0 : PySem.W.codeIn K cd0 "is_int" = true) (k0 : PySem.W.keepIn K (.ref f0) = true)
    (a1 : PySem.W.nsIn K mainGlobals "is_address" = some (some (.ref f1))) (l1 : K.lookup f1 = some ⟨oc1, od1, .func (PySem.W.fnOf "is_address" "is_address" (defArgs sIsAddr) (defBody sIsAddr) (defScope sIsAddr) .none kV1 dc1 pm1 an1 cd1 ct1), sl1⟩) (c1 : PySem.W.codeIn K cd1 "is_address" = true) (k1 : PySem.W.keepIn K (.ref f1) = true)
    (a2 : PySem.W.nsIn K mainGlobals "check_width" = some (some (.ref f2))) (l2 : K.lookup f2 = some ⟨oc2, od2, .func (PySem.W.fnOf "check_width" "check_width" (defArgs sCkWidth) (defBody sCkWidth) (defScope sCkWidth) .none kV2 dc2 pm2 an2 cd2 ct2), sl2⟩) (c2 : PySem.W.codeIn K cd2 "check_width" = true) (k2 : PySem.W.keepIn K (.ref f2) = true)
    (a3 : PySem.W.nsIn K mainGlobals "check_address" = some (some (.ref f3))) (l3 : K.lookup f3 = some ⟨oc3, od3, .func (PySem.W.fnOf "check_address" "check_address" (defArgs sCkAddr) (defBody sCkAddr) (defScope sCkAddr) .none kV3 dc3 pm3 an3 cd3 ct3), sl3⟩) (c3 : PySem.W.codeIn K cd3 "check_address" = true) (k3 : PySem.W.keepIn K (.ref f3) = true)
    (a4 : PySem.W.nsIn K mainGlobals "strided" = some (some (.ref f4))) (l4 : K.lookup f4 = some ⟨oc4, od4, .func (PySem.W.fnOf "strided" "strided" (defArgs sStrided) (defBody sStrided) (defScope sStrided) .none kV4 dc4 pm4 an4 cd4 ct4), sl4⟩) (c4 : PySem.W.codeIn K cd4 "strided" = true) (k4 : PySem.W.keepIn K (.ref f4) = true)
    (a5 : PySem.W.nsIn K mainGlobals "_law_box" = some (some (.ref f5))) (l5 : K.lookup f5 = some ⟨oc5, od5, .func (PySem.W.fnOf "_law_box" "_law_box" (defArgs sBox) (defBody sBox) (defScope sBox) .none kV5 dc5 pm5 an5 cd5 ct5), sl5⟩) (c5 : PySem.W.codeIn K cd5 "_law_box" = true) (k5 : PySem.W.keepIn K (.ref f5) = true)
    (a6 : PySem.W.nsIn K mainGlobals "_law_take" = some (some (.ref f6))) (l6 : K.lookup f6 = some ⟨oc6, od6, .func (PySem.W.fnOf "_law_take" "_law_take" (defArgs sTake) (defBody sTake) (defScope sTake) .none kV6 dc6 pm6 an6 cd6 ct6), sl6⟩) (c6 : PySem.W.codeIn K cd6 "_law_take" = true) (k6 : PySem.W.keepIn K (.ref f6) = true)
    (a7 : PySem.W.nsIn K mainGlobals "_law_of" = some (some (.ref f7))) (l7 : K.lookup f7 = some ⟨oc7, od7, .func (PySem.W.fnOf "_law_of" "_law_of" (defArgs sOf) (defBody sOf) (defScope sOf) .none kV7 dc7 pm7 an7 cd7 ct7), sl7⟩) (c7 : PySem.W.codeIn K cd7 "_law_of" = true) (k7 : PySem.W.keepIn K (.ref f7) = true)
    (a8 : PySem.W.nsIn K mainGlobals "_law_right" = some (some (.ref f8))) (l8 : K.lookup f8 = some ⟨oc8, od8, .func (PySem.W.fnOf "_law_right" "_law_right" (defArgs sRight) (defBody sRight) (defScope sRight) .none kV8 dc8 pm8 an8 cd8 ct8), sl8⟩) (c8 : PySem.W.codeIn K cd8 "_law_right" = true) (k8 : PySem.W.keepIn K (.ref f8) = true)
    (a9 : PySem.W.nsIn K mainGlobals "law" = some (some (.ref f9))) (l9 : K.lookup f9 = some ⟨oc9, od9, .func (PySem.W.fnOf "law" "law" (defArgs sLaw) (defBody sLaw) (defScope sLaw) .none kV9 dc9 pm9 an9 cd9 ct9), sl9⟩) (c9 : PySem.W.codeIn K cd9 "law" = true) (k9 : PySem.W.keepIn K (.ref f9) = true)
    (z0 : PySem.W.nsIn K mainGlobals "isinstance" = some none)
    (z1 : PySem.W.nsIn K mainGlobals "int" = some none)
    (z2 : PySem.W.nsIn K mainGlobals "bool" = some none)
    (z3 : PySem.W.nsIn K mainGlobals "tuple" = some none)
    (z4 : PySem.W.nsIn K mainGlobals "len" = some none)
    (z5 : PySem.W.nsIn K mainGlobals "all" = some none)
    (z6 : PySem.W.nsIn K mainGlobals "sorted" = some none)
    (z7 : PySem.W.nsIn K mainGlobals "abs" = some none)
    (z8 : PySem.W.nsIn K mainGlobals "range" = some none)
    (z9 : PySem.W.nsIn K mainGlobals "repr" = some none)
    (z10 : PySem.W.nsIn K mainGlobals "max" = some none)
    (z11 : PySem.W.nsIn K mainGlobals "min" = some none)
    (m0 : PySem.W.nsIn K mainGlobals "MOST_WIDTH" = some (some (.int 16 tk0)))
    (m1 : PySem.W.nsIn K mainGlobals "MOST_IN_GROUP" = some (some (.int 64 tk1))) :
    ∃ fd : FuncData, (∀ (s : Shared) (v : Value), BindsTo s fd ⟨[v], []⟩ [("_law_script", v)]) ∧ ∀ base : Heap, K.In base → base.Ns mainGlobals mg → G.FnG l.prog w K mg base 6 fa fd ["_law_script"] (spLaw K) := by
  have e := hfa.symm.trans (PySem.W.mg_of X Gn a9)
  cases e
  have FW := fun_mk (st := sIsWidth) lW cW kW
  have AW : At K mg "is_width" sIsWidth ["value"] fW _ := ⟨FW, PySem.W.mg_of X Gn aW, FW.binds (ps := ["value"]) fun _ _ _ _ _ _ us hl => match us, hl with | [_], _ => rfl⟩
  have T : Txt K mg := ⟨⟨_, _, AW⟩, PySem.W.mg_none_of X Gn z0, PySem.W.mg_none_of X Gn z1, PySem.W.mg_none_of X Gn z2, PySem.W.mg_none_of X Gn z3, PySem.W.mg_none_of X Gn z4, PySem.W.mg_none_of X Gn z5, PySem.W.mg_none_of X Gn z6, PySem.W.mg_none_of X Gn z7, PySem.W.mg_none_of X Gn z8, PySem.W.mg_none_of X Gn z9, PySem.W.mg_none_of X Gn z10, PySem.W.mg_none_of X Gn z11, ⟨_, PySem.W.mg_of X Gn m0⟩, ⟨_, PySem.W.mg_of X Gn m1⟩⟩
  have F0 := fun_mk (st := sIsInt) l0 c0 k0
  have A0 : At K mg "is_int" sIsInt ["value"] f0 _ := ⟨F0, PySem.W.mg_of X Gn a0, F0.binds (ps := ["value"]) fun _ _ _ _ _ _ us hl => match us, hl with | [_], _ => rfl⟩
  have F1 := fun_mk (st := sIsAddr) l1 c1 k1
  have A1 : At K mg "is_address" sIsAddr ["width", "value"] f1 _ := ⟨F1, PySem.W.mg_of X Gn a1, F1.binds (ps := ["width", "value"]) fun _ _ _ _ _ _ us hl => match us, hl with | [_, _], _ => rfl⟩
  have F2 := fun_mk (st := sCkWidth) l2 c2 k2
  have A2 : At K mg "check_width" sCkWidth ["width"] f2 _ := ⟨F2, PySem.W.mg_of X Gn a2, F2.binds (ps := ["width"]) fun _ _ _ _ _ _ us hl => match us, hl with | [_], _ => rfl⟩
  have F3 := fun_mk (st := sCkAddr) l3 c3 k3
  have A3 : At K mg "check_address" sCkAddr ["width", "address"] f3 _ := ⟨F3, PySem.W.mg_of X Gn a3, F3.binds (ps := ["width", "address"]) fun _ _ _ _ _ _ us hl => match us, hl with | [_, _], _ => rfl⟩
  have F4 := fun_mk (st := sStrided) l4 c4 k4
  have A4 : At K mg "strided" sStrided ["width", "start", "step", "count"] f4 _ := ⟨F4, PySem.W.mg_of X Gn a4, F4.binds (ps := ["width", "start", "step", "count"]) fun _ _ _ _ _ _ us hl => match us, hl with | [_, _, _, _], _ => rfl⟩
  have F5 := fun_mk (st := sBox) l5 c5 k5
  have A5 : At K mg "_law_box" sBox ["_law_script", "_law_k"] f5 _ := ⟨F5, PySem.W.mg_of X Gn a5, F5.binds (ps := ["_law_script", "_law_k"]) fun _ _ _ _ _ _ us hl => match us, hl with | [_, _], _ => rfl⟩
  have F6 := fun_mk (st := sTake) l6 c6 k6
  have A6 : At K mg "_law_take" sTake ["_law_box_here", "_law_many"] f6 _ := ⟨F6, PySem.W.mg_of X Gn a6, F6.binds (ps := ["_law_box_here", "_law_many"]) fun _ _ _ _ _ _ us hl => match us, hl with | [_, _], _ => rfl⟩
  have F7 := fun_mk (st := sOf) l7 c7 k7
  have A7 : At K mg "_law_of" sOf ["_law_box_here", "_law_some"] f7 _ := ⟨F7, PySem.W.mg_of X Gn a7, F7.binds (ps := ["_law_box_here", "_law_some"]) fun _ _ _ _ _ _ us hl => match us, hl with | [_, _], _ => rfl⟩
  have F8 := fun_mk (st := sRight) l8 c8 k8
  have A8 : At K mg "_law_right" sRight ["_law_box_here"] f8 _ := ⟨F8, PySem.W.mg_of X Gn a8, F8.binds (ps := ["_law_box_here"]) fun _ _ _ _ _ _ us hl => match us, hl with | [_], _ => rfl⟩
  have F9 := fun_mk (st := sLaw) l9 c9 k9
  refine ⟨PySem.W.fnOf "law" "law" (defArgs sLaw) (defBody sLaw) (defScope sLaw) .none kV9 dc9 pm9 an9 cd9 ct9, fun s v => .of_eq rfl, fun base _ _ => ?_⟩
  have GK := ok_strided (P := l.prog) (w := w) (base := base) A4 A0 A1 A2 A3 T
  exact ok_law F9 A8 A5 (ok_right A8 A6 A7 A4 GK T) T
theorem walk {l : PySem.W.OpenLaw} {q : Program} {loose : List Str} {XP : (Str → Option Value) → Heap → Prop} {YP : World → Heap → Prop} {d : DefRec} {K : Params → PySem.W.Frag} (hn : l.most = some 63) (hdf : d.params.defaults = [])
    (hY : ∀ (w : World) (h : Heap), YP w h → (K w.params).In h)
    (F : ∀ (w : World) (mg : Str → Option Value) (fa : Addr) (h : Heap), (K w.params).In h → h.Ns mainGlobals mg → mg d.name = some (.ref fa) →
      ∃ fd : FuncData, (∀ (s : Shared) (u : Value), BindsTo s fd ⟨[u], []⟩ [("_law_script", u)]) ∧ ∀ base : Heap, (K w.params).In base → base.Ns mainGlobals mg → G.FnG l.prog w (K w.params) mg base 6 fa fd ["_law_script"] (spLaw (K w.params))) :
    PySem.W.WalkO q loose XP YP l.row.toRowW d [] (fun f vs => PySem.call f vs) :=
  G.walk_G (n := 63) (k := 6) (x := "_law_script") (sp := spLaw) hn (by decide) hdf ⟨rfl, by decide, by decide⟩ hY F (fun _ _ a ns hl hS => ⟨a, ns, rfl, hS, hl, fun _ => rfl⟩)
end X1
open PySem PySem.W PyProof.Rows
set_option maxRecDepth 100000 in
set_option maxHeartbeats 0 in
theorem PySem.Challenge.cw_xorbanks_k32_strides_holds : PySem.Challenge.rw_xorbanks_k32_strides.Holds := by
  w_on; o_law; k_head; (case hw => w_witness2)
  k_fill
  refine X1.walk (l := PySem.Challenge.rw_xorbanks_k32_strides) rfl rfl (fun w h Y => PySem.W.kIn_of Y) ?F
  case F =>
    intro w mg fa h KX G hmg
    refine' X1.all_mk KX G hmg ?aW ?lW ?cW ?kW ?a0 ?l0 ?c0 ?k0 ?a1 ?l1 ?c1 ?k1 ?a2 ?l2 ?c2 ?k2 ?a3 ?l3 ?c3 ?k3 ?a4 ?l4 ?c4 ?k4 ?a5 ?l5 ?c5 ?k5 ?a6 ?l6 ?c6 ?k6 ?a7 ?l7 ?c7 ?k7 ?a8 ?l8 ?c8 ?k8 ?a9 ?l9 ?c9 ?k9 ?z0 ?z1 ?z2 ?z3 ?z4 ?z5 ?z6 ?z7 ?z8 ?z9 ?z10 ?z11 ?m0 ?m1
    (case aW => k_is)
    (case lW => k_is)
    (case cW => k_is)
    (case kW => k_is)
    (case a0 => k_is)
    (case l0 => k_is)
    (case c0 => k_is)
    (case k0 => k_is)
    (case a1 => k_is)
    (case l1 => k_is)
    (case c1 => k_is)
    (case k1 => k_is)
    (case a2 => k_is)
    (case l2 => k_is)
    (case c2 => k_is)
    (case k2 => k_is)
    (case a3 => k_is)
    (case l3 => k_is)
    (case c3 => k_is)
    (case k3 => k_is)
    (case a4 => k_is)
    (case l4 => k_is)
    (case c4 => k_is)
    (case k4 => k_is)
    (case a5 => k_is)
    (case l5 => k_is)
    (case c5 => k_is)
    (case k5 => k_is)
    (case a6 => k_is)
    (case l6 => k_is)
    (case c6 => k_is)
    (case k6 => k_is)
    (case a7 => k_is)
    (case l7 => k_is)
    (case c7 => k_is)
    (case k7 => k_is)
    (case a8 => k_is)
    (case l8 => k_is)
    (case c8 => k_is)
    (case k8 => k_is)
    (case a9 => k_is)
    (case l9 => k_is)
    (case c9 => k_is)
    (case k9 => k_is)
    (case z0 => k_is)
    (case z1 => k_is)
    (case z2 => k_is)
    (case z3 => k_is)
    (case z4 => k_is)
    (case z5 => k_is)
    (case z6 => k_is)
    (case z7 => k_is)
    (case z8 => k_is)
    (case z9 => k_is)
    (case z10 => k_is)
    (case z11 => k_is)
    (case m0 => k_is)
    (case m1 => k_is)
